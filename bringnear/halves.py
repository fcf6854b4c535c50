"""Half spaces told by whole numbers, and their common part, which must have rows.

A half space is a pair (way, height) of a row of whole numbers, not all 0, and a whole number: it is
that of all rows z with way . z at least the height. A corner is a pair (numbers, bottom) of whole
numbers: the row of these numbers over the bottom, which is above 0.
"""

from itertools import combinations

from bringnear.grids import solved, unit, whole_dot
from bringnear.ratios import dot, plus, ratio


def slack(half, corner):
    """What the half space leaves at the corner, times the bottom of this; below 0 outside of it."""
    (way, height), (numbers, bottom) = half, corner
    return whole_dot(way, numbers) - bottom * height


def corner_of(chosen, many):
    """The row, borne by their ways, at which all chosen half spaces end; None if their ways hang together."""
    found = solved([[*[whole_dot(way, other) for other, _ in chosen], height] for way, height in chosen])
    if found is None:
        return None
    bottom, sides = found
    row = [0] * many
    for (way, _), side in zip(chosen, sides):
        row = [number + side[0] * part for number, part in zip(row, way)]
    return row, bottom


def corners_of(halves, many):
    """Rows of the common part: all of its other rows are between them, or some way from there that never leaves it."""
    found = []
    for size in range(many + 1):
        for chosen in combinations(halves, size):
            corner = corner_of(chosen, many)
            if corner is not None and min([slack(half, corner) for half in halves], default=0) >= 0:
                found.append(corner)
    return found


def across(rows, many):
    """A row at right angles to all of these rows, one fewer than unknowns: noughts if they hang together."""
    if many == 1:
        return [1]
    if many == 2:
        p, q = rows[0]
        return [-q, p]
    (p, q, r), (s, t, u) = rows
    return [q * u - r * t, r * s - p * u, p * t - q * s]


def is_way(halves, row):
    """Whether the row leads out of none of the half spaces, however far."""
    return any(row) and all(whole_dot(way, row) >= 0 for way, _ in halves)


def ways_of(halves, fewer):
    """Ways that never leave the common part, with one unknown more than `fewer`.

    Each such way is a sum of them, but for ways of which the opposite never leaves it either.
    """
    many = fewer + 1
    rows = [way for way, _ in halves] + [unit(many, at) for at in range(many)]
    found = []
    for chosen in combinations(rows, fewer):
        row = across(chosen, many)
        found += [way for way in (row, [-number for number in row]) if is_way(halves, way)]
    return found


def is_left_behind(half, corners, ways):
    """Whether some row of the common part is within the half space and not at its end."""
    return any(slack(half, corner) > 0 for corner in corners) or any(whole_dot(half[0], way) > 0 for way in ways)


def is_endless_and_broad(halves, many):
    """Whether the common part has no bound and a row at the end of none of the half spaces."""
    ways = ways_of(halves, many - 1)
    if ways == []:
        return False
    corners = corners_of(halves, many)
    # Between rows that are at the ends of some half spaces each, there is one that is at none of them.
    return all(is_left_behind(half, corners, ways) for half in halves)


def row_of(corner):
    numbers, bottom = corner
    return tuple([ratio(number, bottom) for number in numbers])


def inner_and_way(halves, many):
    """A row at the end of none of the half spaces, and a way that never leaves their endless, broad part."""
    ways = ways_of(halves, many - 1)
    rows = [row_of(corner) for corner in corners_of(halves, many)]
    # Each half space leaves some corner or some way behind its end, so the mean of all corners, led
    # on by all ways, too.
    shares = [(1, len(rows)) for _ in rows]
    whole_way = [(sum(numbers), 1) for numbers in zip(*ways)]
    inner = [plus(dot(shares, column), part) for column, part in zip(zip(*rows), whole_way)]
    return tuple(inner), tuple([(number, 1) for number in ways[0]])


def any_common(halves, many):
    """Any row of fractions in the common part."""
    return row_of(corners_of(halves, many)[0])


def only_common(halves, many):
    """The one row of the common part; None if there are several."""
    if ways_of(halves, many - 1) != []:
        return None
    first, *others = [row_of(corner) for corner in corners_of(halves, many)]
    return first if all(row == first for row in others) else None
