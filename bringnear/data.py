"""Data: known values of maps that keep a closed kind, and what they leave of the others."""

from itertools import combinations

from bringnear.balls import middle_of, room_of, row_beside, weights_of
from bringnear.errors import InvalidData, Misfit, NotClosed
from bringnear.gaps import excess, form
from bringnear.grids import whole_dot
from bringnear.kinds import check_kind
from bringnear.ratios import NIL, are_fractions, check_row, common_bottom, ratio, row_minus, whole_parts, whole_row

MOST_PAIRS = 6
ROW_LENGTHS = (1, 2, 3)


def is_pair(value, lengths):
    """Whether a value, whatever it is, is a pair of rows of as many fractions, of one of these lengths."""
    if not isinstance(value, tuple) or len(value) != 2:
        return False
    place, image = value
    if not isinstance(place, tuple) or len(place) not in lengths:
        return False
    return are_fractions(place, len(place)) and are_fractions(image, len(place))


def wrong_index(items, is_item):
    """The index of the first element that is no item, or not as long as the first one, or the seventh; None.

    An item is what the function `is_item` takes for one with rows of one of the lengths told to it.
    """
    lengths = ROW_LENGTHS
    for index, item in enumerate(items):
        if index == MOST_PAIRS or not is_item(item, lengths):
            return index
        lengths = (len(item[0]),)
    return None


def are_items(value, is_item):
    """Whether a value, whatever it is, is a tuple of one to six items, all as long as the first one."""
    return isinstance(value, tuple) and value != () and wrong_index(value, is_item) is None


def is_data(value):
    """Whether a value, whatever it is, is data."""
    return are_items(value, is_pair)


def check_data(value):
    if not isinstance(value, tuple) or value == ():
        raise InvalidData(None)
    index = wrong_index(value, is_pair)
    if index is not None:
        raise InvalidData(index)


def check_data_row(value, data):
    check_row(value, (len(data[0][0]),))


def check_closed(kind):
    if kind[0] <= 0:
        raise NotClosed()


def fit(kind, pair, other):
    """Whether two pairs fit the kind; alike ones have the gap of noughts, which passes."""
    (x, u), (y, v) = pair, other
    numbers = whole_parts(row_minus(x, y) + row_minus(u, v))
    place, image = numbers[:len(x)], numbers[len(x):]
    return form(kind, (whole_dot(place, place), whole_dot(place, image), whole_dot(image, image))) <= 0


def first_misfit(kind, data):
    for one, other in combinations(range(len(data)), 2):
        if not fit(kind, data[one], data[other]):
            return one, other
    return None


def check_fitting(kind, data):
    """Refuse kinds that are not closed, and data that do not fit."""
    check_closed(kind)
    found = first_misfit(kind, data)
    if found is not None:
        raise Misfit(found)


def misfit(kind, data):
    """The least pair of indexes of two that do not fit the kind; None."""
    check_kind(kind)
    check_data(data)
    check_closed(kind)
    return first_misfit(kind, data)


def all_fit(kind, data, pair):
    """Whether the pair fits all data."""
    return all(fit(kind, known, pair) for known in data)


def could_lead(kind, data, place, value):
    """Whether some map that keeps the kind and has the data leads the place to the value."""
    check_kind(kind)
    check_data(data)
    check_data_row(place, data)
    check_data_row(value, data)
    check_fitting(kind, data)
    return all_fit(kind, data, (place, value))


def value_balls(kind, data, place):
    """The balls in which the value at the place is."""
    rows = [row for pair in data for row in pair]
    bottom = common_bottom([place, *rows])
    start = whole_row(place, bottom)
    centres, squares = [], []
    for x, u in data:
        way = [first - second for first, second in zip(start, whole_row(x, bottom))]
        centres.append([kind[0] * number + kind[1] * part for number, part in zip(whole_row(u, bottom), way)])
        squares.append(excess(kind) * whole_dot(way, way))
    return kind[0] * bottom, centres, squares


def checked_balls(kind, data, place):
    """The balls in which the value at the place is, once the arguments are seen to be right."""
    check_kind(kind)
    check_data(data)
    check_data_row(place, data)
    check_fitting(kind, data)
    return value_balls(kind, data, place)


def middle(kind, data, place):
    """The middle of the values that the place can be led to."""
    balls = checked_balls(kind, data, place)
    return middle_of(balls, weights_of(balls))


def room(kind, data, place):
    """The square of the farthest that such values can be from the middle, or more."""
    balls = checked_balls(kind, data, place)
    return room_of(balls, weights_of(balls))


def settled(kind, data, place):
    """The one value that the place can be led to; None if there are several."""
    balls = checked_balls(kind, data, place)
    weights = weights_of(balls)
    return middle_of(balls, weights) if room_of(balls, weights) == NIL else None


def bearing(kind, data, place):
    """Any bearing weights of the middle."""
    bottom, weights = weights_of(checked_balls(kind, data, place))
    return tuple([ratio(number, bottom) for number in weights])


def two_values(kind, data, place):
    """Two unlike values that the place can be led to, which is not settled."""
    balls = checked_balls(kind, data, place)
    weights = weights_of(balls)
    return middle_of(balls, weights), row_beside(balls, weights)
