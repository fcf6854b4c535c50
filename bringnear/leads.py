"""Leads: tables that lead pairs, gaps and kinds to others."""

from math import isqrt

from bringnear.errors import InvalidLead, InvalidStep
from bringnear.gaps import excess, raising_pair
from bringnear.kinds import check_gap, check_kind
from bringnear.ratios import (
    NIL,
    ONE,
    are_fractions,
    dot,
    is_fraction,
    lowest,
    minus,
    opposite,
    over,
    plus,
    ratio,
    times,
    whole_parts,
)

BACK = (((0, 1), (1, 1)), ((1, 1), (0, 1)))


def determinant(lead):
    (e, f), (g, h) = lead
    return minus(times(e, h), times(f, g))


def is_lead(value):
    """Whether a value, whatever it is, is a lead."""
    if not isinstance(value, tuple) or len(value) != 2:
        return False
    if not all(are_fractions(row, 2) for row in value):
        return False
    return determinant(value) != NIL


def check_lead(value):
    if not is_lead(value):
        raise InvalidLead(value)


def check_step(value):
    if not is_fraction(value) or value == NIL:
        raise InvalidStep(value)


def paired(row, other, numbers):
    """What two rows of a lead make of the numbers of a gap or a kind."""
    (e, f), (g, h) = row, other
    first, second, third = numbers
    mixed = plus(times(e, h), times(f, g))
    return plus(plus(times(times(e, g), first), times(mixed, second)), times(times(f, h), third))


def led_numbers(numbers, lead):
    """Three fractions led; kinds and gaps go by the same rule."""
    upper, lower = lead
    return paired(upper, upper, numbers), paired(upper, lower, numbers), paired(lower, lower, numbers)


def led(kind, lead):
    """The kind led by the lead."""
    check_kind(kind)
    check_lead(lead)
    numbers = led_numbers(tuple((number, 1) for number in kind), lead)
    return lowest(whole_parts(numbers))


def gap_led(gap, lead):
    """The gap led by the lead."""
    check_gap(gap)
    check_lead(lead)
    return led_numbers(gap, lead)


def product_row(row, table):
    return tuple([dot(row, column) for column in zip(*table)])


def product_table(table, other):
    return tuple([product_row(row, other) for row in table])


def lead_product(lead, other):
    """The lead of leading by the second one first, then by the first one."""
    check_lead(lead)
    check_lead(other)
    return product_table(lead, other)


def inverse_table(lead):
    (e, f), (g, h) = lead
    whole = determinant(lead)
    return (over(h, whole), over(opposite(f), whole)), (over(opposite(g), whole), over(e, whole))


def lead_back(lead):
    """The inverse table of the lead."""
    check_lead(lead)
    return inverse_table(lead)


def step_lead(step):
    """The lead to x - h u from x, h being the step."""
    check_step(step)
    return (ONE, NIL), (ONE, opposite(step))


def resolvent_lead(step):
    """The lead to x from x + h u."""
    check_step(step)
    return (ONE, step), (ONE, NIL)


def reflection_lead(step):
    """The lead to x - h u from x + h u."""
    check_step(step)
    return (ONE, step), (ONE, opposite(step))


def mean_lead(step):
    """The lead to (1 - h) x + h u from x."""
    check_step(step)
    return (ONE, NIL), (minus(ONE, step), step)


def plain_lead(kind):
    """A lead of the kind to (1, 0, - N), N being its excess."""
    first, second, third = kind
    e, f = raising_pair(kind)
    # Leading by rows at right angles by the kind itself leaves nothing in the middle.
    lower = (-(second * e + third * f), first * e + second * f)
    return ((e, 1), (f, 1)), ((lower[0], 1), (lower[1], 1))


def lead_between(kind, other):
    """Any lead that leads the first kind to the other one; None if there is none of fractions."""
    check_kind(kind)
    check_kind(other)
    square = excess(kind) * excess(other)
    root = isqrt(square)
    if root * root != square:
        return None
    stretch = ((ONE, NIL), (NIL, ratio(root, excess(kind))))
    return product_table(inverse_table(plain_lead(other)), product_table(stretch, plain_lead(kind)))
