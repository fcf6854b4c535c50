"""What several tests use: small kinds, gaps and lots, an oracle, and values that are nothing."""

from decimal import Decimal, getcontext
from fractions import Fraction
from itertools import product
from math import gcd
from random import Random

getcontext().prec = 90
TINY = Decimal(10) ** -40

NIL, ONE, TWO, HALF, LESS = (0, 1), (1, 1), (2, 1), (1, 2), (-1, 1)


def nested(depth):
    value = ()
    for _ in range(depth):
        value = (value,)
    return value


ANYTHING = (
    None, True, False, 0, 1, -1, 7, 10 ** 399, "", "word", b"", b"bytes", [], {}, {1: 2}, set(), (), object(),
    range(3), len, [1, 2], [1, 0, -1], [(1, 1)], (None,), (1,), ("a", "b"), ((),), ((1,), (2,)), (1, 2, 3, 4),
    nested(13), [[[]]], ({}, {}), ((1, 1), [1, 1]), ((1, 1), (1, 1), (1, 1), (1, 1), (1, 1)),
)


def pair(number):
    """A number as a fraction of the package."""
    number = Fraction(number)
    return number.numerator, number.denominator


def number(fraction):
    return Fraction(*fraction)


def small_kinds(most):
    span = range(-most, most + 1)
    return [kind for kind in product(span, span, span)
            if gcd(*kind) == 1 and kind[1] ** 2 > kind[0] * kind[2]]


def small_gaps(most):
    """Gaps of whole numbers, without multiples."""
    return [gap for gap in product(range(most + 1), range(-most, most + 1), range(most + 1))
            if gap[0] + gap[2] > 0 and gap[1] ** 2 <= gap[0] * gap[2] and gcd(*gap) == 1]


def as_gap(numbers):
    return tuple(pair(part) for part in numbers)


def value_at(cut, gap):
    """The form, of whole numbers or fractions of Python's own."""
    return cut[0] * gap[2] - 2 * cut[1] * gap[1] + cut[2] * gap[0]


def told(gap):
    return tuple(number(part) for part in gap)


def is_true_gap(gap):
    a, b, c = told(gap)
    return a >= 0 and c >= 0 and (a, c) != (0, 0) and b * b <= a * c


def random_fraction(random, most):
    return pair(Fraction(random.randint(-most, most), random.randint(1, most)))


def random_lead(random, most=4):
    while True:
        e, f, g, h = (random_fraction(random, most) for _ in range(4))
        if number(e) * number(h) != number(f) * number(g):
            return (e, f), (g, h)


def random_lots(count, seed, most=3):
    kinds = small_kinds(most)
    random = Random(seed)
    return [tuple(random.choice(kinds) for _ in range(random.randint(1, 4))) for _ in range(count)]


def root_ends(cut):
    """The ends of the line of a kind as gaps with a + c = 1, told by decimals."""
    first, second, third = (Decimal(part) for part in cut)
    root = (second * second - first * third).sqrt()
    found = []
    for p, q in ((first, second + root), (first, second - root), (second + root, third), (second - root, third)):
        size = p * p + q * q
        if size > TINY:
            found.append((p * p / size, p * q / size, q * q / size))
    return found


def crossing(kind, other):
    """Where two lines meet, with a + c = 1; None where they do not."""
    one, two = ((Decimal(cut[2]), Decimal(-2 * cut[1]), Decimal(cut[0])) for cut in (kind, other))
    a = one[1] * two[2] - one[2] * two[1]
    b = one[2] * two[0] - one[0] * two[2]
    c = one[0] * two[1] - one[1] * two[0]
    if a + c == 0:
        return None
    return a / (a + c), b / (a + c), c / (a + c)


def corner_gaps(lot):
    """By decimals, all corners of the gaps that a lot holds, and where an arc of them begins or ends."""
    found = [gap for kind in lot for gap in root_ends(kind)]
    found += [crossing(kind, other) for kind in lot for other in lot]
    return [gap for gap in found if gap is not None and is_held_nearly(lot, gap)]


def is_held_nearly(lot, gap):
    a, b, c = gap
    return a >= -TINY and c >= -TINY and a * c - b * b >= -TINY and all(value_at(kind, gap) <= TINY for kind in lot)


def greatest_value(lot, cut):
    """By decimals, the greatest form of the cut at a gap with a + c = 1 that the lot holds; None if it is empty."""
    held = corner_gaps(lot)
    first, second, third = (Decimal(part) for part in cut)
    # On the rim a, b, c are (1 + cos) / 2, sin / 2, (1 - cos) / 2.
    cos, sin = (third - first) / 2, -second
    size = (cos * cos + sin * sin).sqrt()
    if size > TINY:
        peak = ((1 + cos / size) / 2, sin / size / 2, (1 - cos / size) / 2)
        held += [gap for gap in [peak] if is_held_nearly(lot, gap)]
    if not held:
        return None
    return max(value_at(cut, gap) for gap in held)
