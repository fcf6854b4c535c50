"""Gaps, kinds, and which kinds lie in which."""

from math import gcd

from bringnear.errors import InvalidGap, InvalidKind, InvalidShare, LikePairs, NoKind
from bringnear.gaps import excess, form, found_gap, is_inside, told_gap
from bringnear.ratios import (
    are_fractions,
    check_fraction,
    check_row,
    check_size,
    dot,
    is_fraction,
    is_whole,
    lowest,
    minus,
    ratio,
    row_minus,
    times,
    whole_parts,
)

ROW_LENGTHS = (1, 2, 3, 4)


def is_kind(value):
    """Whether a value, whatever it is, is a kind."""
    if not isinstance(value, tuple) or len(value) != 3:
        return False
    if not all(is_whole(number) for number in value):
        return False
    first, second, third = value
    return gcd(first, second, third) == 1 and excess(value) > 0


def is_gap(value):
    """Whether a value, whatever it is, is a gap of fractions."""
    return are_fractions(value, 3) and is_inside(whole_parts(value))


def check_kind(value):
    if not is_kind(value):
        raise InvalidKind(value)


def check_gap(value):
    if not is_gap(value):
        raise InvalidGap(value)


def gap_of(x, u, y, v):
    """The gap of the pairs (x, u) and (y, v)."""
    check_row(x, ROW_LENGTHS)
    for row in (u, y, v):
        check_row(row, (len(x),))
    if x == y and u == v:
        raise LikePairs()
    place, value = row_minus(x, y), row_minus(u, v)
    return dot(place, place), dot(place, value), dot(value, value)


def kind_of(first, second, third):
    """The kind whose numbers are some number above 0 times these."""
    for number in (first, second, third):
        check_fraction(number)
    numbers = whole_parts((first, second, third))
    if excess(numbers) <= 0:
        raise NoKind()
    return lowest(numbers)


def bounded(size):
    """The kind of |u - v| at most the size times |x - y|."""
    check_size(size)
    top, bottom = size
    return lowest((bottom ** 2, 0, -(top ** 2)))


def one_way(least):
    """The kind of (x - y) . (u - v) at least this number times |x - y|^2."""
    check_fraction(least)
    top, bottom = least
    return lowest((0, bottom, 2 * top))


def pulled(size):
    """The kind of (x - y) . (u - v) at least the size times |u - v|^2."""
    check_size(size)
    top, bottom = size
    return lowest((2 * top, bottom, 0))


def averaged(share):
    """The kind of |u - v - (1 - share) (x - y)| at most the share times |x - y|."""
    if not is_fraction(share) or share[0] <= 0:
        raise InvalidShare(share)
    top, bottom = share
    return lowest((bottom, bottom - top, bottom - 2 * top))


def disc_kind(centre, radius):
    """The kind of |u - v - centre (x - y)| at most the radius times |x - y|."""
    check_fraction(centre)
    check_size(radius)
    end = minus(times(centre, centre), times(radius, radius))
    return lowest(whole_parts(((1, 1), centre, end)))


def word_of(kind):
    """Whether the kind is closed, a side or open."""
    check_kind(kind)
    if kind[0] > 0:
        return "closed"
    if kind[0] == 0:
        return "side"
    return "open"


def centre_of(kind):
    """The centre of a kind; None for a side."""
    check_kind(kind)
    if kind[0] == 0:
        return None
    return ratio(kind[1], kind[0])


def radius_square(kind):
    """The square of the radius of a kind; None for a side."""
    check_kind(kind)
    if kind[0] == 0:
        return None
    return ratio(excess(kind), kind[0] ** 2)


def holds(kind, gap):
    """Whether the kind holds the gap."""
    check_kind(kind)
    check_gap(gap)
    return form(kind, whole_parts(gap)) <= 0


def lies_in(kind, other):
    """Whether all relations that keep the first kind keep the other one."""
    check_kind(kind)
    check_kind(other)
    scale = 2 * kind[1] * other[1] - kind[0] * other[2] - other[0] * kind[2]
    twice = 2 * excess(kind)
    return (
        scale > 0
        and scale ** 2 >= 2 * twice * excess(other)
        and scale * kind[0] >= twice * other[0]
        and scale * kind[2] >= twice * other[2]
    )


def gap_between(kind, other):
    """Any gap that the first kind holds and the other one does not hold; None if it lies in it."""
    check_kind(kind)
    check_kind(other)
    return told_gap(found_gap((kind,), other))
