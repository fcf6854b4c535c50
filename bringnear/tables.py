"""Tables of one to four rows: which kinds they keep, and what leads, mixes and steps make of them."""

from math import isqrt

from bringnear.discs import check_mix
from bringnear.errors import InvalidNumber, InvalidTable
from bringnear.grids import falling_row, numbers_about, root_numbers, solved, square_of, whole_grid
from bringnear.kinds import check_gap, check_kind
from bringnear.leads import check_lead, product_table
from bringnear.ratios import (
    ONE,
    are_fractions,
    check_fraction,
    check_many,
    check_row,
    dot,
    is_whole,
    opposite,
    plus,
    ratio,
    times,
    whole_parts,
)

MOST_ROWS = 4
MOST_STEPS = 12
LESS = (-1, 1)


def is_table(value):
    """Whether a value, whatever it is, is a table."""
    if not isinstance(value, tuple) or not 1 <= len(value) <= MOST_ROWS:
        return False
    return all(are_fractions(row, len(value)) for row in value)


def check_table(value):
    if not is_table(value):
        raise InvalidTable(value)


def check_other_table(value, table):
    if not is_table(value) or len(value) != len(table):
        raise InvalidTable(value)


def check_table_row(value, table):
    check_row(value, (len(table),))


def check_steps(value):
    if not is_whole(value) or not 0 <= value <= MOST_STEPS:
        raise InvalidNumber(value)


def mixed_table(plain, factor, table):
    """The table of x to plain times x and factor times T x."""
    found = []
    for at, row in enumerate(table):
        numbers = [times(factor, number) for number in row]
        numbers[at] = plus(plain, numbers[at])
        found.append(tuple(numbers))
    return tuple(found)


def opposite_form(table, kind):
    """The opposite of the form of [20], times a whole number above 0."""
    first, second, third = kind
    bottom, grid = whole_grid(table)
    size = range(len(grid))
    both = [[grid[at][by] + grid[by][at] for by in size] for at in size]
    found = [
        [second * bottom * number - first * part for number, part in zip(row, parts)]
        for row, parts in zip(both, square_of(grid))
    ]
    for at in size:
        found[at][at] -= third * bottom ** 2
    return found


def keeps_kind(table, kind):
    """Whether x to T x keeps the kind."""
    check_table(table)
    check_kind(kind)
    return falling_row(opposite_form(table, kind)) is None


def breaking_row(table, kind):
    """Any row of fractions whose pair has with that of noughts a gap that the kind does not hold; None."""
    check_table(table)
    check_kind(kind)
    found = falling_row(opposite_form(table, kind))
    return None if found is None else tuple([(number, 1) for number in found])


def made_turn(first, second):
    return (first, opposite(second)), (second, first)


def turn_table(first, second):
    """The table of the turn of two fractions."""
    check_fraction(first)
    check_fraction(second)
    return made_turn(first, second)


def turn_for(gap):
    """Any turn table all of whose gaps are multiples of the gap; None if there is none."""
    check_gap(gap)
    first, second, third = whole_parts(gap)
    square = first * third - second ** 2
    root = isqrt(square)
    if first == 0 or root * root != square:
        return None
    return made_turn(ratio(second, first), ratio(root, first))


def led_table(table, lead):
    """The table of the pairs (x, T x) led; None if there is none."""
    check_table(table)
    check_lead(lead)
    upper, lower = [mixed_table(plain, factor, table) for plain, factor in lead]
    # Tables made of T and 1 may change places: so the inverse may stand in front.
    found = solved([whole_parts(row + side) for row, side in zip(upper, lower)])
    if found is None:
        return None
    bottom, sides = found
    return tuple([tuple([ratio(number, bottom) for number in side]) for side in sides])


def blend_table(table, other, mix):
    """The table of the blend of x to T x, T being the table, and of that of the other one."""
    check_table(table)
    check_other_table(other, table)
    check_mix(mix)
    plain, by_first, by_both = mix
    return mixed_table(plain, ONE, product_table(mixed_table(by_first, by_both, other), table))


def least_count_above(numbers, step, most):
    """The least whole number n from 0 up to the most such that no root of the polynomial is above n steps."""
    low, high = -1, most
    while high - low > 1:
        between = (low + high) // 2
        if min(numbers_about(numbers, between * step)) >= 0:
            high = between
        else:
            low = between
    return high


def width_square_near(table, centre, many):
    """The square of the width near for many."""
    check_table(table)
    check_fraction(centre)
    check_many(many)
    bottom, grid = whole_grid(mixed_table(opposite(centre), ONE, table))
    # The square of the width is the greatest root of this form over the square of the bottom.
    form = [[many * number for number in row] for row in square_of(grid)]
    numbers = root_numbers(form)
    step = bottom ** 2
    # The roots, none below 0, add up to what stands along the form.
    most = sum(row[at] for at, row in enumerate(form)) // step + 1
    count = least_count_above(numbers, step, most)
    is_just = numbers_about(numbers, count * step)[-1] == 0
    return (count if is_just else count - 1), is_just


def rest_of_table(table, row):
    """The row x with x = T x and the row added; None if there is none, or several."""
    check_table(table)
    check_table_row(row, table)
    found = solved([whole_parts((*left, side)) for left, side in zip(mixed_table(ONE, LESS, table), row)])
    if found is None:
        return None
    bottom, sides = found
    return tuple([ratio(side[0], bottom) for side in sides])


def stepped(table, row, place):
    """T times the place, and the row added."""
    return tuple([plus(dot(numbers, place), side) for numbers, side in zip(table, row)])


def run_of_table(table, row, start, number):
    """The start and so many rows behind it, each one T times the one before it and the row added."""
    check_table(table)
    check_table_row(row, table)
    check_table_row(start, table)
    check_steps(number)
    found = [start]
    for _ in range(number):
        found.append(stepped(table, row, found[-1]))
    return tuple(found)
