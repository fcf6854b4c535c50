"""Discs, and what sums, multiples, mixes and chains of maps of discs are of."""

from math import isqrt

from bringnear.errors import InvalidDisc, InvalidMix, InvalidShare, NoKind
from bringnear.gaps import excess
from bringnear.kinds import check_kind
from bringnear.ratios import (
    NIL,
    ONE,
    are_fractions,
    check_fraction,
    check_many,
    is_fraction,
    is_up_to,
    lowest,
    minus,
    over,
    plus,
    ratio,
    times,
    whole_parts,
)

TWO = (2, 1)
DOWN = (-1, 1)


def is_disc(value):
    """Whether a value, whatever it is, is a disc."""
    return are_fractions(value, 2) and value[1][0] >= 0


def check_disc(value):
    if not is_disc(value):
        raise InvalidDisc(value)


def check_mix(value):
    if not are_fractions(value, 3):
        raise InvalidMix(value)


def check_part(value):
    if not is_fraction(value) or not 0 < value[0] < value[1]:
        raise InvalidShare(value)


def size(fraction):
    return abs(fraction[0]), fraction[1]


def square(fraction):
    return times(fraction, fraction)


def twice(first, second):
    return times(TWO, times(first, second))


def lies_in_disc(disc, other):
    """Whether all maps of the first disc are of the other one."""
    check_disc(disc)
    check_disc(other)
    return is_up_to(plus(size(minus(disc[0], other[0])), disc[1]), other[1])


def sum_disc(disc, other):
    """The disc of the sums of a map of the one and a map of the other."""
    check_disc(disc)
    check_disc(other)
    return plus(disc[0], other[0]), plus(disc[1], other[1])


def scaled_disc(disc, fraction):
    """The disc of the maps of this one times the fraction."""
    check_disc(disc)
    check_fraction(fraction)
    return times(fraction, disc[0]), times(size(fraction), disc[1])


def kind_of_disc(disc):
    """The kind that the maps of the disc keep, and no others."""
    check_disc(disc)
    centre, radius = disc
    if radius == NIL:
        raise NoKind()
    return lowest(whole_parts((ONE, centre, minus(square(centre), square(radius)))))


def disc_of_kind(kind):
    """The disc of the maps that keep a kind; None if it is not closed, or the radius is no fraction."""
    check_kind(kind)
    root = isqrt(excess(kind))
    if kind[0] <= 0 or root * root != excess(kind):
        return None
    return ratio(kind[1], kind[0]), ratio(root, kind[0])


def line_pairs(first, second, mix, centre):
    """The pairs (p0, p1) and (q0, q1) of [17]."""
    plain, by_first, by_both = mix
    turn = plus(by_first, times(by_both, second[0]))
    a = plus(minus(plain, centre), times(turn, first[0]))
    b = times(turn, first[1])
    scale = square(times(by_both, second[1]))
    upper = (plus(square(a), square(b)), twice(a, b))
    lower = (times(scale, plus(square(first[0]), square(first[1]))), times(scale, twice(first[0], first[1])))
    return upper, lower


def place_on(upper, lower):
    """Where the sum of the roots of p and q is greatest; None if neither rises or falls."""
    (start, rise), (other_start, other_rise) = upper, lower
    signs = (rise[0], other_rise[0])
    if signs == (0, 0):
        return None
    if min(signs) >= 0:
        return ONE
    if max(signs) <= 0:
        return DOWN
    top = minus(times(square(other_rise), start), times(square(rise), other_start))
    place = over(top, times(times(rise, other_rise), minus(rise, other_rise)))
    if place[0] > place[1]:
        return ONE
    return DOWN if place[0] < -place[1] else place


def lines_at(upper, lower, place):
    """What p and q are there."""
    return tuple([plus(start, times(rise, place)) for start, rise in (upper, lower)])


def worst_on(upper, lower):
    """P and Q: what p and q are at their place."""
    place = place_on(upper, lower)
    return lines_at(upper, lower, NIL if place is None else place)


def check_blend(first, second, mix):
    check_disc(first)
    check_disc(second)
    check_mix(mix)


def blend_lines(first, second, mix, centre):
    """The lines of the blends: what p and q are at 0, and what they rise by from there to 1."""
    check_blend(first, second, mix)
    check_fraction(centre)
    return line_pairs(first, second, mix, centre)


def blend_place(first, second, mix, centre):
    """The place at which the blends are worst; None if neither p nor q rises or falls."""
    check_blend(first, second, mix)
    check_fraction(centre)
    upper, lower = line_pairs(first, second, mix, centre)
    return place_on(upper, lower)


def blend_worst(first, second, mix, centre):
    """What p and q are at the place, or at 0 if there is none."""
    check_blend(first, second, mix)
    check_fraction(centre)
    upper, lower = line_pairs(first, second, mix, centre)
    return worst_on(upper, lower)


def roots_are_within(one, other, radius):
    """Whether the sum of the roots of two fractions from 0 on is at most the radius, from 0 on, too."""
    left = minus(square(radius), plus(one, other))
    return left[0] >= 0 and is_up_to(times((4, 1), times(one, other)), square(left))


def blend_fits(first, second, mix, disc):
    """Whether all blends are of the disc."""
    check_blend(first, second, mix)
    check_disc(disc)
    centre, radius = disc
    upper, lower = line_pairs(first, second, mix, centre)
    one, other = worst_on(upper, lower)
    return roots_are_within(one, other, radius)


def root_sum_near(one, other, many):
    """The sum of the roots of two fractions from 0 on, near for many."""
    bottom = one[1] * other[1]
    left, right = one[0] * other[1] * many ** 2, other[0] * one[1] * many ** 2
    # The square of the sum is (left + right + the root of 4 left right) / bottom.
    count = isqrt((left + right + isqrt(4 * left * right)) // bottom)
    above = count ** 2 * bottom - left - right
    return count, above >= 0 and above ** 2 == 4 * left * right


def blend_near(first, second, mix, centre, many):
    """The least radius of a disc round the centre that all blends are of, near for many."""
    check_blend(first, second, mix)
    check_fraction(centre)
    check_many(many)
    upper, lower = line_pairs(first, second, mix, centre)
    one, other = worst_on(upper, lower)
    return root_sum_near(one, other, many)


def chain_share(share, other):
    """The share by which all chains of two averaged maps are averaged."""
    check_part(share)
    check_part(other)
    both = times(share, other)
    return over(minus(plus(share, other), times(TWO, both)), minus(ONE, both))
