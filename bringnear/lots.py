"""Lots: several kinds at once."""

from math import isqrt

from bringnear.errors import EmptyLot, InvalidLot
from bringnear.gaps import EVERYWHERE, excess, found_gap, is_held, meetings, told_gap, upright
from bringnear.kinds import check_kind, is_kind
from bringnear.ratios import check_many, check_square, ratio, root_near

MOST_KINDS = 4
# The cuts of the gaps with b from 0 on, and of those with b up to 0.
UPWARD = (0, 1, 0)
DOWNWARD = (0, -1, 0)


def is_lot(value):
    """Whether a value, whatever it is, is a lot."""
    if not isinstance(value, tuple) or not 1 <= len(value) <= MOST_KINDS:
        return False
    return all(is_kind(kind) for kind in value)


def check_lot(value):
    if not isinstance(value, tuple) or value == ():
        raise InvalidLot(None)
    for index, kind in enumerate(value):
        if index == MOST_KINDS or not is_kind(kind):
            raise InvalidLot(index)


def holds_none(lot):
    return found_gap(lot, EVERYWHERE) is None


def is_empty(lot):
    """Whether the lot holds no gap."""
    check_lot(lot)
    return holds_none(lot)


def any_gap(lot):
    """Any gap that the lot holds; None."""
    check_lot(lot)
    return told_gap(found_gap(lot, EVERYWHERE))


def lot_lies_in(lot, kind):
    """Whether all relations that keep the lot keep the kind."""
    check_lot(lot)
    check_kind(kind)
    return found_gap(lot, kind) is None


def breaking_gap(lot, kind):
    """Any gap that the lot holds and the kind does not hold; None."""
    check_lot(lot)
    check_kind(kind)
    return told_gap(found_gap(lot, kind))


def size_cut(square):
    """The cut with a form above 0 where c is above the square times a."""
    top, bottom = square
    return bottom, 0, -top


def brings(lot, square):
    """Whether the lot brings near by the square."""
    check_lot(lot)
    check_square(square)
    return found_gap(lot, size_cut(square)) is None


def parting_gap(lot, square):
    """Any gap that the lot holds, with c above the square times a; None."""
    check_lot(lot)
    check_square(square)
    return told_gap(found_gap(lot, size_cut(square)))


def spreads(lot, square):
    """Whether the lot spreads by the square."""
    check_lot(lot)
    check_square(square)
    top, bottom = square
    return found_gap(lot, (-bottom, 0, top)) is None


def sum_with_root_is_positive(plain, factor, square):
    """Whether plain + factor times the root of the square is above 0, the square being above 0."""
    if plain > 0:
        return factor >= 0 or plain ** 2 > square * factor ** 2
    return factor > 0 and square * factor ** 2 > plain ** 2


def holds_end(lot, kind, sign):
    """Whether the lot holds an end of the line of the kind: (p p, p q, q q), p = A, q = B + sign root N."""
    first, second, _ = kind
    square = excess(kind)
    for one, two, three in lot:
        plain = one * (second ** 2 + square) - 2 * two * first * second + three * first ** 2
        factor = 2 * sign * (one * second - two * first)
        if sum_with_root_is_positive(plain, factor, square):
            return False
    return True


def holds_upper_end(lot, kind):
    """Whether the lot holds the end of the line at which c / a is greatest; of a level line, one of both."""
    return any(holds_end(lot, kind, sign) for sign in (1, -1) if sign * kind[1] >= 0)


def upper_end_near(kind, many):
    """The root of c / a at that end, (|B| + root N) / A, near for many, of a closed kind."""
    square = excess(kind) * many * many
    root = isqrt(square)
    top = abs(kind[1]) * many + root
    return top // kind[0], root * root == square and top % kind[0] == 0


def held_of(lot, gaps):
    return [gap for gap in gaps if is_held(lot, gap)]


def size_near(lot, many):
    """The size of the lot near for many; None if it is endless."""
    check_lot(lot)
    check_many(many)
    if holds_none(lot):
        raise EmptyLot()
    if is_held(lot, (0, 0, 1)):
        return None
    # The greatest c / a is where lines meet or at the upper end of a closed kind's line: along a line
    # c / a rises to its upper end, and from an end where no lines meet it rises along the rim unless
    # the kind is closed.
    reached = [root_near(gap[2], gap[0], many) for gap in held_of(lot, meetings(lot))]
    reached += [upper_end_near(kind, many) for kind in lot if kind[0] > 0 and holds_upper_end(lot, kind)]
    count = max(number for number, _ in reached)
    return count, all(is_just for number, is_just in reached if number == count)


def lowest_places(lot):
    """For each kind with A and D alike in sign, the gap of its line with the least b b / (a c); else no gap."""
    return [upright((first * second, first * third, second * third)) for first, second, third in lot]


def is_less_aligned(gap, other):
    """Whether b b / (a c) is less for the first gap."""
    return gap[1] ** 2 * other[0] * other[2] < other[1] ** 2 * gap[0] * gap[2]


def best_step(lot):
    """The pair (h, S) of the step that brings near most and of the number by which it does; None."""
    check_lot(lot)
    if holds_none(lot):
        raise EmptyLot()
    if not (holds_none((*lot, UPWARD)) or holds_none((*lot, DOWNWARD))):
        return None
    # Inside of the ground b b / (a c) falls on towards b = 0, so the least one is on a line, at its
    # own least place or where another one meets it.
    best = None
    for gap in held_of(lot, meetings(lot) + lowest_places(lot)):
        if best is None or is_less_aligned(gap, best):
            best = gap
    first, second, third = best
    return ratio(second, third), ratio(first * third - second ** 2, first * third)
