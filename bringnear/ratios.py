"""Fractions as pairs (n, m): what they are, how they are reckoned with, and how they are checked."""

from math import gcd, isqrt, lcm

from bringnear.errors import InvalidFraction, InvalidNumber, InvalidRow, InvalidSize, InvalidSquare

NIL = (0, 1)
ONE = (1, 1)
MOST_PARTS = 1000000


def is_whole(value):
    """Whether a value is a whole number; True and False are none."""
    return isinstance(value, int) and not isinstance(value, bool)


def is_index(value, many):
    """Whether a value, whatever it is, is the index of one of so many things."""
    return is_whole(value) and 0 <= value < many


def is_fraction(value):
    """Whether a value, whatever it is, is a fraction."""
    if not isinstance(value, tuple) or len(value) != 2:
        return False
    top, bottom = value
    return is_whole(top) and is_whole(bottom) and bottom > 0 and gcd(top, bottom) == 1


def is_from_nil(value):
    """Whether a value, whatever it is, is a fraction from 0 on."""
    return is_fraction(value) and value[0] >= 0


def are_fractions(value, many):
    """Whether a value, whatever it is, is a tuple of so many fractions."""
    return isinstance(value, tuple) and len(value) == many and all(is_fraction(part) for part in value)


def check_fraction(value):
    if not is_fraction(value):
        raise InvalidFraction(value)


def check_size(value):
    if not is_fraction(value) or value[0] <= 0:
        raise InvalidSize(value)


def check_square(value):
    if not is_from_nil(value):
        raise InvalidSquare(value)


def check_many(value):
    if not is_whole(value) or not 1 <= value <= MOST_PARTS:
        raise InvalidNumber(value)


def check_row(value, lengths):
    """Refuse what is no row of one of these lengths."""
    if not isinstance(value, tuple) or len(value) not in lengths:
        raise InvalidRow(None)
    for index, part in enumerate(value):
        if not is_fraction(part):
            raise InvalidRow(index)


def ratio(top, bottom):
    """The fraction top / bottom, bottom not being 0."""
    common = gcd(top, bottom)
    if bottom < 0:
        common = -common
    return top // common, bottom // common


def plus(first, second):
    return ratio(first[0] * second[1] + second[0] * first[1], first[1] * second[1])


def minus(first, second):
    return ratio(first[0] * second[1] - second[0] * first[1], first[1] * second[1])


def times(first, second):
    return ratio(first[0] * second[0], first[1] * second[1])


def over(first, second):
    """The first one divided by the second one, which is not 0."""
    return ratio(first[0] * second[1], first[1] * second[0])


def is_up_to(first, second):
    """Whether the first one is at most the second one."""
    return first[0] * second[1] <= second[0] * first[1]


def opposite(fraction):
    return -fraction[0], fraction[1]


def dot(row, other):
    """The sum of the products of two rows of as many fractions."""
    total = NIL
    for first, second in zip(row, other):
        total = plus(total, times(first, second))
    return total


def row_minus(row, other):
    return tuple([minus(first, second) for first, second in zip(row, other)])


def common_bottom(rows):
    """The least whole number above 0 that times each fraction of these rows is a whole number."""
    bottom = 1
    for row in rows:
        for part in row:
            bottom = lcm(bottom, part[1])
    return bottom


def whole_row(row, bottom):
    """The whole numbers that these fractions are times the bottom, which they have in common."""
    return tuple(top * (bottom // under) for top, under in row)


def whole_parts(fractions):
    """Whole numbers that are one number above 0 times these fractions."""
    return whole_row(fractions, common_bottom((fractions,)))


def lowest(numbers):
    """Whole numbers, not all 0, without the divisors that they have in common."""
    common = 0
    for number in numbers:
        common = gcd(common, number)
    return tuple(number // common for number in numbers)


def root_near(top, bottom, many):
    """The root of top / bottom near for many, top from 0 on and bottom above 0."""
    square = top * many * many
    count = isqrt(square // bottom)
    return count, count * count * bottom == square
