"""Rests: rows that maps with known values leave where they are."""

from bringnear.balls import middle_of, room_of, weights_of
from bringnear.data import all_fit, check_data, check_data_row, check_fitting
from bringnear.errors import Wild
from bringnear.gaps import excess
from bringnear.grids import whole_dot
from bringnear.halves import any_common, inner_and_way, is_endless_and_broad, only_common
from bringnear.kinds import check_kind
from bringnear.ratios import NIL, common_bottom, lowest, whole_row


def rest_of_kind(kind):
    return kind[0] - 2 * kind[1] + kind[2]


def rest_number(kind):
    """The rest number of any kind."""
    check_kind(kind)
    return rest_of_kind(kind)


def check_rests(kind, data):
    check_kind(kind)
    check_data(data)
    check_fitting(kind, data)


def check_tame(kind):
    if rest_of_kind(kind) < 0:
        raise Wild()


def can_rest(kind, data, place):
    """Whether some map that keeps the kind and has the data leads the place to itself."""
    check_kind(kind)
    check_data(data)
    check_data_row(place, data)
    check_fitting(kind, data)
    return all_fit(kind, data, (place, place))


def whole_moves(data):
    """A whole number above 0, and for each pair (x, u) the x and the u - x, times it, in whole numbers."""
    bottom = common_bottom([row for pair in data for row in pair])
    found = []
    for x, u in data:
        place = whole_row(x, bottom)
        found.append((place, [end - start for end, start in zip(whole_row(u, bottom), place)]))
    return bottom, found


def rest_balls(kind, data):
    """The balls of which the common part is all that can rest, the rest number being above 0."""
    bottom, moves = whole_moves(data)
    number = rest_of_kind(kind)
    turn = kind[0] - kind[1]
    centres = [[number * start + turn * part for start, part in zip(place, way)] for place, way in moves]
    return number * bottom, centres, [excess(kind) * whole_dot(way, way) for _, way in moves]


def half_of(kind, bottom, move):
    """The half space in which a pair that is no rest lets others be, the rest number being 0."""
    place, way = move
    twice = 2 * (kind[0] - kind[1])
    height = twice * whole_dot(place, way) + kind[0] * whole_dot(way, way)
    numbers = lowest([*[twice * bottom * part for part in way], height])
    return numbers[:-1], numbers[-1]


def rest_halves(kind, data):
    """The half spaces of which the common part is all that can rest, the rest number being 0."""
    bottom, moves = whole_moves(data)
    return [half_of(kind, bottom, move) for move in moves if any(move[1])]


def far_row(kind, data):
    """A row so far out that all such can rest, the rest number being below 0."""
    # Farther from each x than |u - x| times this, the first part of the inequality outweighs both others.
    often = 2 * abs(kind[0] - kind[1]) + kind[0]
    bottom, moves = whole_moves(data)
    reach = 0
    for place, way in moves:
        reach += abs(place[0]) + often * sum(abs(part) for part in way)
    return ((reach // bottom + 1, 1), *[NIL for _ in data[0][0][1:]])


def any_rest(kind, data):
    """Any row that some map that keeps the kind and has the data leads to itself."""
    check_rests(kind, data)
    number = rest_of_kind(kind)
    if number < 0:
        return far_row(kind, data)
    if number == 0:
        return any_common(rest_halves(kind, data), len(data[0][0]))
    balls = rest_balls(kind, data)
    return middle_of(balls, weights_of(balls))


def only_rest(kind, data):
    """The one row that can rest, the rest number being from 0 on; None if there are several."""
    if rest_of_kind(kind) == 0:
        return only_common(rest_halves(kind, data), len(data[0][0]))
    balls = rest_balls(kind, data)
    weights = weights_of(balls)
    return middle_of(balls, weights) if room_of(balls, weights) == NIL else None


def may_drift(kind, data):
    """Whether some map that keeps the kind and has the data has no rest, the rest number being 0."""
    halves = rest_halves(kind, data)
    # A pair that is a rest itself is none of the half spaces: there the inequality is always an equality.
    return len(halves) == len(data) and is_endless_and_broad(halves, len(data[0][0]))


def rest_word(kind, data):
    """How sure a rest of all maps that keep the kind and have the data is."""
    check_rests(kind, data)
    check_tame(kind)
    if only_rest(kind, data) is not None:
        return "settled"
    if rest_of_kind(kind) > 0:
        return "single"
    return "loose" if may_drift(kind, data) else "sure"


def settled_rest(kind, data):
    """The one row at which all of these maps rest, if the word is settled; None."""
    check_rests(kind, data)
    check_tame(kind)
    return only_rest(kind, data)


def drift(kind, data):
    """An inner row of what can rest, and a way that never leaves it, for data with the word loose."""
    return inner_and_way(rest_halves(kind, data), len(data[0][0]))
