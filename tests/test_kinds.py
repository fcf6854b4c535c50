"""Points [3] to [9]: whole numbers, fractions, rows, gaps, kinds, and which kinds lie in which."""

import unittest
from fractions import Fraction
from itertools import product
from math import gcd
from random import Random

from bringnear.errors import InvalidFraction, LikePairs, NoKind
from bringnear.kinds import (
    averaged, bounded, centre_of, disc_kind, gap_between, gap_of, holds, is_gap, is_kind, kind_of, lies_in, one_way,
    pulled, radius_square, word_of,
)
from tests.helpers import (
    ANYTHING, HALF, LESS, NIL, ONE, TWO, as_gap, greatest_value, TINY, is_true_gap, nested, number, pair, random_fraction,
    small_gaps, small_kinds, told, value_at,
)

BIG = 10 ** 399 + 9


class IsKind(unittest.TestCase):
    def test_kinds(self):
        for value in ((1, 0, -1), (0, 1, 0), (0, -1, 0), (-1, 0, 1), (2, 1, 0), (0, 1, 7), (-1, 3, 2), (BIG, 0, -1),
                      (BIG, BIG + 1, BIG + 1), (-2, 3, -4)):
            self.assertIs(is_kind(value), True, value)
        self.assertIs(is_kind(value=(1, 0, -1)), True)

    def test_edges(self):
        for value in ((2, 0, -2), (0, 2, 0), (0, -3, 6), (1, 1, 1), (1, -1, 1), (0, 0, 1), (0, 0, 0), (1, 0, 0),
                      (1, 2, 4), (1, 0, 1), (BIG, 0, -BIG), (BIG, BIG, BIG)):
            self.assertIs(is_kind(value), False, value)

    def test_other_values(self):
        for value in (*ANYTHING, [1, 0, -1], (True, 0, -1), (1, False, -1), (1, 0, "1"), (1, 0, None), (1, 0),
                      (1, 0, -1, 0), ((1, 1), (0, 1), (-1, 1)), ((1, 0, -1),), (1, 0, (-1,)), (1, [], -1)):
            self.assertIs(is_kind(value), False, value)

    def test_all_small_ones(self):
        for value in product(range(-3, 4), repeat=3):
            wanted = gcd(*value) == 1 and value[1] * value[1] > value[0] * value[2]
            self.assertIs(is_kind(value), wanted, value)


class IsGap(unittest.TestCase):
    def test_gaps(self):
        for value in (((1, 1), (0, 1), (0, 1)), ((0, 1), (0, 1), (1, 1)), ((1, 1), (1, 1), (1, 1)),
                      ((1, 1), (-1, 1), (1, 1)), ((4, 1), (1, 1), (1, 4)), ((1, 2), (-1, 3), (2, 9)),
                      ((BIG, 1), (1, 1), (1, BIG)), ((1, BIG), (0, 1), (1, 1))):
            self.assertIs(is_gap(value), True, value)
        self.assertIs(is_gap(value=(ONE, NIL, NIL)), True)

    def test_edges(self):
        for value in ((NIL, NIL, NIL), (ONE, TWO, ONE), (LESS, NIL, LESS), (LESS, NIL, ONE), (ONE, NIL, LESS),
                      (LESS, ONE, LESS), (NIL, ONE, ONE), (ONE, HALF, NIL), (NIL, NIL, LESS), (LESS, NIL, NIL),
                      ((BIG - 1, 1), (1, 1), (1, BIG)), ((4, 1), (-1, 1), (1, 5))):
            self.assertIs(is_gap(value), False, value)

    def test_other_values(self):
        for value in (*ANYTHING, [ONE, NIL, NIL], (1, 0, 0), (1, 0, 1), (ONE, NIL), (ONE, NIL, NIL, NIL),
                      ((2, 2), NIL, NIL), ((1, 0), NIL, NIL), ((-1, -1), NIL, NIL), (ONE, (0, 2), NIL),
                      (ONE, [0, 1], NIL), ((True, 1), NIL, NIL), ((1, True), NIL, NIL), (ONE, NIL, None),
                      (ONE, NIL, "0"), (ONE, NIL, (0, 1, 1)), (ONE, NIL, (0,)), (ONE, NIL, nested(12))):
            self.assertIs(is_gap(value), False, value)


class GapOf(unittest.TestCase):
    def test_by_hand(self):
        self.assertEqual(gap_of((NIL, NIL), (NIL, NIL), (ONE, NIL), (HALF, HALF)), (ONE, HALF, HALF))
        self.assertEqual(gap_of((ONE,), (TWO,), (NIL,), (NIL,)), (ONE, TWO, (4, 1)))
        self.assertEqual(gap_of(x=(ONE,), u=(TWO,), y=(HALF,), v=(TWO,)), ((1, 4), NIL, NIL))
        self.assertEqual(gap_of((ONE,), (TWO,), (ONE,), (NIL,)), (NIL, NIL, (4, 1)))
        self.assertEqual(gap_of((ONE, NIL, NIL, TWO), (NIL,) * 4, (NIL,) * 4, (ONE, ONE, LESS, HALF)),
                         ((5, 1), (-2, 1), (13, 4)))
        self.assertEqual(gap_of(((BIG, 1),), ((1, BIG),), (NIL,), (NIL,)), ((BIG ** 2, 1), ONE, (1, BIG ** 2)))

    def test_against_sums(self):
        random = Random(1)
        for _ in range(300):
            length = random.randint(1, 4)
            rows = [tuple(random_fraction(random, 3) for _ in range(length)) for _ in range(4)]
            x, u, y, v = ([number(part) for part in row] for row in rows)
            if (x, u) == (y, v):
                continue
            xs, us = [p - q for p, q in zip(x, y)], [p - q for p, q in zip(u, v)]
            wanted = (sum(p * p for p in xs), sum(p * q for p, q in zip(xs, us)), sum(p * p for p in us))
            found = gap_of(*rows)
            self.assertEqual(found, tuple(pair(part) for part in wanted))
            self.assertTrue(is_gap(found))

    def test_like_pairs(self):
        with self.assertRaises(LikePairs):
            gap_of((ONE, HALF), (TWO, NIL), (ONE, HALF), (TWO, NIL))
        with self.assertRaises(LikePairs):
            gap_of(x=(ONE,), u=(TWO,), y=(ONE,), v=(TWO,))


class MadeKinds(unittest.TestCase):
    def test_kind_of(self):
        self.assertEqual(kind_of(TWO, HALF, LESS), (4, 1, -2))
        self.assertEqual(kind_of((4, 1), NIL, (-6, 1)), (2, 0, -3))
        self.assertEqual(kind_of((-4, 1), NIL, (6, 1)), (-2, 0, 3))
        self.assertEqual(kind_of(NIL, (-2, 3), NIL), (0, -1, 0))
        self.assertEqual(kind_of(third=(-1, 6), first=(1, 4), second=(1, 10)), (15, 6, -10))
        self.assertEqual(kind_of((BIG, 1), NIL, (-BIG, 2)), (2, 0, -1))

    def test_kind_of_all_multiples(self):
        for kind in small_kinds(3):
            for scale in map(Fraction, ("1", "2", "1/3", "5/4")):
                self.assertEqual(kind_of(*(pair(scale * part) for part in kind)), kind)

    def test_no_kind(self):
        for numbers in ((ONE, ONE, ONE), (NIL, NIL, NIL), (ONE, NIL, ONE), (ONE, NIL, NIL), (NIL, NIL, ONE),
                        ((1, 4), HALF, ONE), (LESS, ONE, LESS), (LESS, NIL, LESS)):
            with self.assertRaises(NoKind):
                kind_of(*numbers)
        with self.assertRaises(InvalidFraction):
            kind_of(ONE, ONE, 1)

    def check_same_gaps(self, kind, is_kept):
        """That the kind holds just the gaps (with a = 1, and the one with a = 0) for which the words are so."""
        self.assertTrue(is_kind(kind), kind)
        for gap in small_gaps(5):
            self.assertEqual(holds(kind, as_gap(gap)), is_kept(*gap), (kind, gap))

    def test_meanings(self):
        for size in map(Fraction, ("1", "2", "1/2", "3/4", "5/3")):
            told_size = pair(size)
            self.check_same_gaps(bounded(told_size), lambda a, b, c: c <= size * size * a)
            self.check_same_gaps(pulled(told_size), lambda a, b, c: b >= size * c)
            self.check_same_gaps(
                averaged(told_size),
                lambda a, b, c: c - 2 * (1 - size) * b + (1 - size) ** 2 * a <= size * size * a)
            for middle in map(Fraction, ("0", "1", "-1/2", "2", "4/3")):
                self.check_same_gaps(
                    disc_kind(pair(middle), told_size),
                    lambda a, b, c: c - 2 * middle * b + middle ** 2 * a <= size * size * a)
        for least in map(Fraction, ("0", "1", "-1", "1/2", "-5/3", "3")):
            self.check_same_gaps(one_way(pair(least)), lambda a, b, c: b >= least * a)

    def test_by_hand(self):
        self.assertEqual(bounded((3, 2)), (4, 0, -9))
        self.assertEqual(one_way((-3, 2)), (0, 1, -3))
        self.assertEqual(one_way((2, 3)), (0, 3, 4))
        self.assertEqual(pulled((3, 2)), (3, 1, 0))
        self.assertEqual(averaged((1, 1)), (1, 0, -1))
        self.assertEqual(averaged((3, 1)), (1, -2, -5))
        self.assertEqual(averaged((3, 4)), (4, 1, -2))
        self.assertEqual(disc_kind((1, 2), (1, 3)), (36, 18, 5))
        self.assertEqual(disc_kind(LESS, ONE), (1, -1, 0))
        self.assertEqual(bounded((BIG, 1)), (1, 0, -BIG ** 2))
        self.assertEqual(disc_kind((BIG, 1), (BIG - 1, 1)), (1, BIG, 2 * BIG - 1))

    def test_by_name(self):
        self.assertEqual(bounded(size=TWO), (1, 0, -4))
        self.assertEqual(one_way(least=NIL), (0, 1, 0))
        self.assertEqual(pulled(size=ONE), (2, 1, 0))
        self.assertEqual(averaged(share=HALF), (2, 1, 0))
        self.assertEqual(disc_kind(radius=ONE, centre=TWO), (1, 2, 3))


class Words(unittest.TestCase):
    def test_word_of(self):
        self.assertEqual([word_of((1, 0, -1)), word_of((0, 1, 0)), word_of((0, -1, 5)), word_of((-1, 0, 1))],
                         ["closed", "side", "side", "open"])
        self.assertEqual(word_of(kind=(BIG, 0, -1)), "closed")

    def test_centre_and_radius(self):
        self.assertEqual(centre_of((1, 2, 3)), TWO)
        self.assertEqual(centre_of((-2, 1, 1)), (-1, 2))
        self.assertEqual(radius_square((-2, 1, 1)), (3, 4))
        self.assertEqual(radius_square((4, 1, -2)), (9, 16))
        self.assertEqual(radius_square((1, 0, -3)), (3, 1))
        self.assertIsNone(centre_of((0, 1, 0)))
        self.assertIsNone(radius_square((0, -1, 4)))
        self.assertEqual(centre_of(kind=(2, 1, 0)), HALF)
        self.assertEqual(radius_square(kind=(2, 1, 0)), (1, 4))
        self.assertEqual(radius_square((1, BIG, 0)), (BIG ** 2, 1))

    def test_closed_kinds_are_discs(self):
        for kind in small_kinds(3):
            if kind[0] <= 0:
                continue
            middle, square = number(centre_of(kind)), number(radius_square(kind))
            self.assertGreater(square, 0)
            for a, b, c in small_gaps(4):
                wanted = c - 2 * middle * b + middle ** 2 * a <= square * a
                self.assertEqual(holds(kind, as_gap((a, b, c))), wanted)


class Holds(unittest.TestCase):
    def test_equality(self):
        self.assertIs(holds((1, 0, -1), (ONE, NIL, ONE)), True)
        self.assertIs(holds((1, 0, -1), (ONE, NIL, (10 ** 300 + 1, 10 ** 300))), False)
        self.assertIs(holds((0, 1, 0), (ONE, NIL, ONE)), True)
        self.assertIs(holds((0, 1, 0), (ONE, (-1, 10 ** 300), ONE)), False)
        self.assertIs(holds((-1, 0, 1), (ONE, NIL, ONE)), True)
        self.assertIs(holds((-1, 0, 1), (ONE, NIL, HALF)), False)

    def test_ends(self):
        """a = 0 and c = 0."""
        last, flat = (NIL, NIL, ONE), (ONE, NIL, NIL)
        self.assertEqual([holds(kind, last) for kind in ((1, 0, -1), (0, 1, 0), (0, -1, 5), (-1, 0, 1))],
                         [False, True, True, True])
        self.assertEqual([holds(kind, flat) for kind in ((1, 2, 3), (1, 0, -1), (0, 1, 0), (-1, 2, -3))],
                         [False, True, True, True])
        self.assertIs(holds(gap=flat, kind=(1, 2, 3)), False)

    def test_form(self):
        random = Random(2)
        for kind in small_kinds(2):
            for gap in random.sample(small_gaps(4), 20):
                told_gap = as_gap(Fraction(part, 7) for part in gap)
                self.assertIs(holds(kind, told_gap), value_at(kind, gap) <= 0)

    def test_pairs_keep_kinds(self):
        """The gaps of x to 2 x and of x to - x / 2."""
        for x in map(Fraction, ("1", "-2/3")):
            double = gap_of((pair(x),), (pair(2 * x),), (NIL,), (NIL,))
            self.assertTrue(holds(bounded(TWO), double))
            self.assertFalse(holds(bounded((199, 100)), double))
            back = gap_of((pair(x),), (pair(-x / 2),), (NIL,), (NIL,))
            self.assertTrue(holds(one_way((-1, 2)), back))
            self.assertFalse(holds(one_way((-49, 100)), back))


class LiesIn(unittest.TestCase):
    def test_by_hand(self):
        calm, up, firm, far = bounded(ONE), one_way(NIL), averaged(HALF), disc_kind(TWO, ONE)
        self.assertIs(lies_in(firm, calm), True)
        self.assertIs(lies_in(calm, firm), False)
        self.assertIs(lies_in(far, one_way(ONE)), True)
        self.assertIs(lies_in(far, one_way((10 ** 300 + 1, 10 ** 300))), False)
        self.assertIs(lies_in(up, (-1, 1, 0)), True)
        self.assertIs(lies_in(up, (-1, -1, 0)), False)
        self.assertIs(lies_in(kind=firm, other=up), True)
        self.assertIs(lies_in(other=firm, kind=up), False)
        self.assertIs(lies_in((-1, 0, 1), (-2, 0, 1)), True)
        self.assertIs(lies_in((1, 0, -1), (-1, 0, 1)), False)

    def test_discs(self):
        """Discs lie as circles of the plane do."""
        parts = [Fraction(part, 2) for part in range(-3, 4)]
        sizes = [Fraction(1, 2), Fraction(1), Fraction(3, 2)]
        for one, size, two, other in product(parts, sizes, parts, sizes):
            wanted = abs(one - two) + size <= other
            found = lies_in(disc_kind(pair(one), pair(size)), disc_kind(pair(two), pair(other)))
            self.assertIs(found, wanted)

    def test_all_small_ones(self):
        kinds = small_kinds(2)
        gaps = small_gaps(4)
        for kind, other in product(kinds, kinds):
            lies = lies_in(kind, other)
            found = gap_between(kind, other)
            self.assertIs(found is None, lies, (kind, other))
            if lies:
                self.assertFalse([gap for gap in gaps if value_at(kind, gap) <= 0 < value_at(other, gap)])
            else:
                self.check_between(kind, other, found)

    def check_between(self, kind, other, found):
        self.assertTrue(is_gap(found) and is_true_gap(found), found)
        self.assertLessEqual(value_at(kind, told(found)), 0)
        self.assertGreater(value_at(other, told(found)), 0)

    def test_against_decimals(self):
        random = Random(3)
        kinds = small_kinds(9)
        for _ in range(1500):
            kind, other = random.choice(kinds), random.choice(kinds)
            self.assertIs(lies_in(kind, other), greatest_value((kind,), other) <= TINY, (kind, other))

    def test_itself_and_chains(self):
        kinds = small_kinds(1)
        for kind in kinds:
            self.assertTrue(lies_in(kind, kind))
        for one, two, three in product(kinds, repeat=3):
            if lies_in(one, two) and lies_in(two, three):
                self.assertTrue(lies_in(one, three))

    def test_irrational_ends(self):
        """The kind (1, 0, -2) ends at the root of 2, which no fractions tell."""
        kind, root = (1, 0, -2), 1414213562373095048801688724209
        below, above = pair(Fraction(root, 10 ** 30)), pair(Fraction(root + 1, 10 ** 30))
        for narrow, wide in ((bounded(below), bounded(above)),
                             (one_way(pair(-number(below))), one_way(pair(-number(above))))):
            self.assertIs(lies_in(kind, narrow), False)
            self.check_between(kind, narrow, gap_between(kind=kind, other=narrow))
            self.assertIs(lies_in(kind, wide), True)
            self.assertIsNone(gap_between(kind, wide))

    def test_large(self):
        kind, wider = disc_kind((BIG, 1), (1, BIG)), disc_kind((BIG, 1), (2, BIG))
        self.assertTrue(lies_in(kind, wider))
        self.assertIsNone(gap_between(kind, wider))
        self.assertFalse(lies_in(wider, kind))
        found = gap_between(wider, kind)
        self.check_between(wider, kind, found)
        self.assertIs(holds(wider, found), True)
        self.assertIs(holds(kind, found), False)


if __name__ == "__main__":
    unittest.main()
