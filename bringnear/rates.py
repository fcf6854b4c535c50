"""Rates of methods that go down by slopes: what shows them for all functions with a span, and what breaks them."""

from bringnear.errors import InvalidMethod, InvalidNumber, InvalidShare, InvalidSpan, InvalidStep, InvalidWeights
from bringnear.functions import check_marks, is_span, least_misfit, rise_rows, rise_rule
from bringnear.grids import falling_row, unit, whole_grid
from bringnear.ratios import (
    NIL,
    ONE,
    are_fractions,
    check_size,
    common_bottom,
    dot,
    is_fraction,
    is_from_nil,
    is_index,
    is_up_to,
    is_whole,
    minus,
    opposite,
    over,
    plus,
    ratio,
    row_minus,
    times,
    whole_row,
)

MOST_STEPS = 4
TWO = (2, 1)


def is_method(value):
    """Whether a value, whatever it is, is a method."""
    if not isinstance(value, tuple) or len(value) > MOST_STEPS:
        return False
    return all(are_fractions(row, at + 1) for at, row in enumerate(value))


def is_closed_span(value):
    """Whether a value, whatever it is, is a span with an upper number."""
    return is_span(value) and value[1] is not None


def is_weight(value, many):
    """Whether a value, whatever it is, is a triple of two unlike ones of so many indexes and a fraction above 0."""
    if not isinstance(value, tuple) or len(value) != 3:
        return False
    first, second, number = value
    if not is_index(first, many) or not is_index(second, many) or first == second:
        return False
    return is_fraction(number) and number[0] > 0


def wrong_weight(weights, method):
    """The index of the first of them that is no triple for the method, or not behind the one before it; None."""
    before = ()
    for index, weight in enumerate(weights):
        if not is_weight(weight, len(method) + 2) or weight[:2] <= before:
            return index
        before = weight[:2]
    return None


def are_weights(value, method):
    """Whether a value, whatever it is, is weights for the method."""
    return isinstance(value, tuple) and wrong_weight(value, method) is None


def check_rate_span(value):
    if not is_closed_span(value):
        raise InvalidSpan(value)


def check_method(value):
    if not is_method(value):
        raise InvalidMethod(value)


def check_share(value):
    if not is_from_nil(value):
        raise InvalidShare(value)


def check_rate(span, method, share):
    check_rate_span(span)
    check_method(method)
    check_share(share)


def check_weights(value, method):
    if not isinstance(value, tuple):
        raise InvalidWeights(None)
    index = wrong_weight(value, method)
    if index is not None:
        raise InvalidWeights(index)


def check_step(value):
    if not is_fraction(value) or value[0] <= 0:
        raise InvalidStep(value)


def check_short_step(value, size):
    check_step(value)
    if not is_up_to(times(value, size), ONE):
        raise InvalidStep(value)


def check_steps(value):
    if not is_whole(value) or not 0 <= value <= MOST_STEPS:
        raise InvalidNumber(value)


def method_points(method):
    """A bottom, and for each index what takes x_0 - z and the slopes to make its place less z and its slope.

    These are rows of whole numbers over the bottom.
    """
    size = len(method) + 2
    bottom = common_bottom(method)
    found = []
    for at, row in enumerate(((), *method)):
        taken = [-number for number in whole_row(row, bottom)]
        place = [bottom, *taken, *[0] * (size - at - 1)]
        found.append((place, [bottom * part for part in unit(size, at + 1)]))
    found.append(([0] * size, [0] * size))
    return bottom, found


def rise_form(rule, point, other):
    """The form of the rise to the point from the other one, times twice its bottom."""
    way, lean, turn, bent = rise_rows(rule, point, other)
    indexes = range(len(way))
    return [
        [way[at] * lean[by] + way[by] * lean[at] + 2 * turn[at] * bent[by] for by in indexes]
        for at in indexes
    ]


def form_of(span, method, share, weights):
    """The form of weights for a share, all of these being right."""
    bottom, rule = rise_rule(span)
    scale, points = method_points(method)
    numbers = [number for _, _, number in weights]
    under = common_bottom((numbers,))
    grid = [[0] * len(points) for _ in points]
    for (first, second, _), factor in zip(weights, whole_row(numbers, under)):
        added = rise_form(rule, points[first], points[second])
        grid = [[old + factor * new for old, new in zip(row, others)] for row, others in zip(grid, added)]
    whole = 2 * bottom * scale ** 2 * under
    table = [[ratio(number, whole) for number in row] for row in grid]
    table[0][0] = plus(share, table[0][0])
    return tuple([tuple(row) for row in table])


def are_balanced(method, weights):
    """Whether the values, by these weights, come down to what the last place is above the least one."""
    sums = [NIL for _ in range(len(method) + 2)]
    for first, second, number in weights:
        sums[first] = plus(sums[first], number)
        sums[second] = minus(sums[second], number)
    return sums == [*[NIL] * len(method), opposite(ONE), ONE]


def is_shown(span, method, share, weights):
    """Whether weights show the share, all of these being right."""
    if not are_balanced(method, weights):
        return False
    _, grid = whole_grid(form_of(span, method, share, weights))
    return falling_row(grid) is None


def stepped(start, row, marks):
    """The start less the slopes of the marks, each times its number of the row."""
    place = start
    for factor, mark in zip(row, marks):
        place = row_minus(place, [times(factor, part) for part in mark[1]])
    return place


def goes_on(method, marks):
    """Whether marks that are right are a run of the method."""
    if len(marks) != len(method) + 2 or any(part != NIL for part in marks[-1][1]):
        return False
    return all(stepped(marks[0][0], row, marks) == marks[at + 1][0] for at, row in enumerate(method))


def is_broken(span, method, share, marks):
    """Whether marks break the share, all of these being right."""
    if not goes_on(method, marks) or least_misfit(span, marks) is not None:
        return False
    way = row_minus(marks[0][0], marks[-1][0])
    return not is_up_to(minus(marks[-2][2], marks[-1][2]), times(share, dot(way, way)))


def form(span, method, share, weights):
    """The form of the weights for the share."""
    check_rate(span, method, share)
    check_weights(weights, method)
    return form_of(span, method, share, weights)


def shows_rate(span, method, share, weights):
    """Whether the weights are balanced and their form is nowhere below 0."""
    check_rate(span, method, share)
    check_weights(weights, method)
    return is_shown(span, method, share, weights)


def is_run(method, marks):
    """Whether the marks are a run of the method."""
    check_method(method)
    check_marks(marks)
    return goes_on(method, marks)


def breaks_rate(span, method, share, marks):
    """Whether the marks are a run without a misfit which shows that the share is not had."""
    check_rate(span, method, share)
    check_marks(marks)
    return is_broken(span, method, share, marks)


def descent(step, number):
    """The plain descent of so many rows."""
    check_step(step)
    check_steps(number)
    return tuple([(step,) * (at + 1) for at in range(number)])


def whole_step(size, step, number):
    """N h L."""
    return times((number, 1), times(step, size))


def descent_share(size, step, number):
    """The least share that the span (0, size) and the plain descent have."""
    check_size(size)
    check_short_step(step, size)
    check_steps(number)
    return over(size, plus(times((4, 1), whole_step(size, step, number)), TWO))


def descent_weights(number):
    """The weights of the plain descent of so many rows, which show its least share."""
    check_steps(number)
    chain = [ratio(at, 2 * number + 1 - at) for at in range(number + 1)]
    found = [(at - 1, at, chain[at]) for at in range(1, number + 1)]
    for at, (part, behind) in enumerate(zip(chain, [*chain[1:], ONE])):
        found.append((number + 1, at, minus(behind, part)))
    return tuple(found)


def descent_marks(size, step, number, far):
    """The run of the plain descent, from this far, that comes just to its least share."""
    check_size(size)
    check_short_step(step, size)
    check_steps(number)
    check_size(far)
    edge = over(far, plus(times(TWO, whole_step(size, step, number)), ONE))
    slope = times(size, edge)
    found = []
    for at in range(number + 1):
        place = minus(far, times((at, 1), times(step, slope)))
        found.append(((place,), (slope,), times(slope, minus(place, over(edge, TWO)))))
    return (*found, ((NIL,), (NIL,), NIL))
