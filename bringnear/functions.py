"""Functions known by their slopes: which points and marks some function with a span has, and how far apart."""

from itertools import permutations

from bringnear.data import are_items, is_pair, wrong_index
from bringnear.errors import InvalidIndex, InvalidMarks, InvalidPoints, InvalidSpan, NoFunction
from bringnear.grids import whole_dot
from bringnear.ratios import common_bottom, is_fraction, is_from_nil, is_index, is_up_to, lowest, ratio, whole_row


def is_span(value):
    """Whether a value, whatever it is, is a span."""
    if not isinstance(value, tuple) or len(value) != 2:
        return False
    low, high = value
    if not is_from_nil(low):
        return False
    return high is None or (is_fraction(high) and not is_up_to(high, low))


def is_mark(value, lengths):
    """Whether a value, whatever it is, is a mark with rows of one of these lengths."""
    return isinstance(value, tuple) and len(value) == 3 and is_pair(value[:2], lengths) and is_fraction(value[2])


def are_points(value):
    """Whether a value, whatever it is, is one to six points, all as long as the first one."""
    return are_items(value, is_pair)


def are_marks(value):
    """Whether a value, whatever it is, is one to six marks, all as long as the first one."""
    return are_items(value, is_mark)


def check_span(value):
    if not is_span(value):
        raise InvalidSpan(value)


def check_points(value):
    if not isinstance(value, tuple) or value == ():
        raise InvalidPoints(None)
    index = wrong_index(value, is_pair)
    if index is not None:
        raise InvalidPoints(index)


def check_marks(value):
    if not isinstance(value, tuple) or value == ():
        raise InvalidMarks(None)
    index = wrong_index(value, is_mark)
    if index is not None:
        raise InvalidMarks(index)


def check_index(value, points):
    if not is_index(value, len(points)):
        raise InvalidIndex(value)


def rise_rule(span):
    """Whole numbers that tell the rises by the span: a bottom above 0, and what rise_rows takes often."""
    low, high = span
    if high is None:
        top, under = low
        return 2 * under, (2 * under, 0, top, 0)
    under = common_bottom((span,))
    top, upper = whole_row(span, under)
    wide = 2 * under * (upper - top)
    return wide, (wide, under ** 2, top * upper, -2 * under * top)


def whole_minus(row, other):
    return [first - second for first, second in zip(row, other)]


def rise_rows(rule, point, other):
    """Rows p, q, r, s of whole numbers: the rise to the point from the other one, times its bottom, is p . q + r . s.

    The points are rows of whole numbers: their parts, or what takes other rows to make these parts.
    """
    along, bend, wide, mixed = rule
    way, turn = whole_minus(point[0], other[0]), whole_minus(point[1], other[1])
    lean = [along * slope + wide * part + mixed * by for slope, part, by in zip(other[1], way, turn)]
    return way, lean, turn, [bend * by for by in turn]


def whole_rise(rule, point, other):
    way, lean, turn, bent = rise_rows(rule, point, other)
    return whole_dot(way, lean) + whole_dot(turn, bent)


def whole_rises(span, points):
    """A bottom above 0, and for each point the row of the rises to it from all points, in whole numbers over it."""
    bottom, rule = rise_rule(span)
    scale = common_bottom([row for point in points for row in point])
    whole_points = [(whole_row(x, scale), whole_row(slope, scale)) for x, slope in points]
    rises = [[whole_rise(rule, point, other) for other in whole_points] for point in whole_points]
    return bottom * scale ** 2, rises


def rise(span, points, first, second):
    """The rise to the point with the first index from the one with the second."""
    check_span(span)
    check_points(points)
    check_index(first, points)
    check_index(second, points)
    bottom, rises = whole_rises(span, (points[first], points[second]))
    return ratio(rises[0][1], bottom)


def least_misfit(span, marks):
    """The least misfit of marks that are right; None."""
    bottom, rises = whole_rises(span, [mark[:2] for mark in marks])
    values = [value for _, _, value in marks]
    scale = common_bottom((values,))
    heights = [bottom * value for value in whole_row(values, scale)]
    for index, row in enumerate(rises):
        for other, number in enumerate(row):
            if heights[index] < heights[other] + scale * number:
                return index, other
    return None


def misfit_of_marks(span, marks):
    """The least pair of indexes for which the value of the one mark is too low beside the other; None."""
    check_span(span)
    check_marks(marks)
    return least_misfit(span, marks)


def round_sum(rises, indexes):
    """The sum of the rises to each of these from the next one, and to the last one from the first."""
    return sum(rises[indexes[at - 1]][index] for at, index in enumerate(indexes))


def ring_of(rises):
    """A ring of no more points than any other one; None."""
    many = len(rises)
    for size in range(2, many + 1):
        for indexes in permutations(range(many), size):
            if indexes[0] == min(indexes) and round_sum(rises, indexes) > 0:
                return indexes
    return None


def ring(span, points):
    """Any ring that bars all functions with the span from having the points; None."""
    check_span(span)
    check_points(points)
    return ring_of(whole_rises(span, points)[1])


def greatest_sums(rises):
    """For each point the greatest sums of rises along ways to it from all points, there being no ring."""
    sums = [list(row) for row in rises]
    indexes = range(len(rises))
    for middle in indexes:
        for end in indexes:
            for start in indexes:
                sums[end][start] = max(sums[end][start], sums[end][middle] + sums[middle][start])
    return sums


def values_for(span, points):
    """Any values, one for each point, with which the marks have no misfit; None."""
    check_span(span)
    check_points(points)
    bottom, rises = whole_rises(span, points)
    if ring_of(rises) is not None:
        return None
    return tuple([ratio(row[0], bottom) for row in greatest_sums(rises)])


def difference_range(span, points, first, second):
    """The least and the greatest value of the one point less that of the other one."""
    check_span(span)
    check_points(points)
    check_index(first, points)
    check_index(second, points)
    bottom, rises = whole_rises(span, points)
    if ring_of(rises) is not None:
        raise NoFunction()
    sums = greatest_sums(rises)
    return ratio(sums[first][second], bottom), ratio(-sums[second][first], bottom)


def kind_of_span(span):
    """The kind that the slopes of all functions with the span keep."""
    check_span(span)
    low, high = span
    if high is None:
        return lowest((0, low[1], 2 * low[0]))
    under = common_bottom((span,))
    top, upper = whole_row(span, under)
    return lowest((2 * under ** 2, under * (top + upper), 2 * top * upper))
