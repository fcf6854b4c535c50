"""Points [16] to [19]: discs, sums and multiples, mixes, the place, and averaged maps."""

import cmath
import unittest
from decimal import Decimal
from fractions import Fraction
from math import isqrt
from random import Random

from bringnear.discs import (
    blend_fits, blend_lines, blend_near, blend_place, blend_worst, chain_share, disc_of_kind, is_disc, kind_of_disc,
    lies_in_disc, scaled_disc, sum_disc,
)
from bringnear.errors import NoKind
from bringnear.kinds import averaged, centre_of, disc_kind, is_kind, lies_in, radius_square
from tests.helpers import HALF, LESS, NIL, ONE, TINY, TWO, number, pair, random_fraction, small_kinds

BIG = 10 ** 399 + 9
FIRM, NEAR, CHAIN, MEAN = (HALF, HALF), (NIL, ONE), (NIL, NIL, ONE), (HALF, NIL, HALF)


def disc(centre, radius):
    return pair(centre), pair(radius)


def mix(*weights):
    return tuple(pair(weight) for weight in weights)


def random_disc(random, most=4):
    centre, radius = random_fraction(random, most), random_fraction(random, most)
    return centre, (abs(radius[0]), radius[1])


def random_blends(count, seed):
    """First disc, second disc, mix and centre; noughts stand often among their numbers."""
    random = Random(seed)
    found = []
    for _ in range(count):
        first, second = random_disc(random, 3), random_disc(random, 3)
        weights = tuple(random.choice((NIL, random_fraction(random, 3), ONE)) for _ in range(3))
        found.append((first, second, weights, random_fraction(random, 3)))
    return found


def lines_of(first, second, weights, centre):
    """p and q as functions of t, by fractions of Python's own."""
    (c, r), (d, s) = (tuple(map(number, each)) for each in (first, second))
    w0, w1, w2 = map(number, weights)

    def p(t):
        v = w1 + w2 * d
        a, b = w0 - number(centre) + v * c, v * r
        return a * a + b * b + 2 * a * b * t

    def q(t):
        return (w2 * s) ** 2 * (c * c + r * r + 2 * c * r * t)

    return p, q


def root(fraction):
    return (Decimal(fraction.numerator) / Decimal(fraction.denominator)).sqrt()


def height(blend, t):
    p, q = lines_of(*blend)
    return root(p(Fraction(t))) + root(q(Fraction(t)))


class Discs(unittest.TestCase):
    def test_is_disc(self):
        for value in (FIRM, NEAR, (NIL, NIL), (LESS, NIL), ((-BIG, 2), (1, BIG)), ((1, BIG), (BIG, 1))):
            self.assertIs(is_disc(value), True)
        for value in ((HALF, LESS), (HALF, (-1, BIG)), [HALF, ONE], (HALF,), (HALF, ONE, ONE), (HALF, (2, 2)), ()):
            self.assertIs(is_disc(value), False)

    def test_lies_in_disc(self):
        self.assertIs(lies_in_disc(FIRM, NEAR), True)
        self.assertIs(lies_in_disc(NEAR, FIRM), False)
        self.assertIs(lies_in_disc(FIRM, FIRM), True)
        self.assertIs(lies_in_disc((ONE, NIL), FIRM), True)
        self.assertIs(lies_in_disc((ONE, NIL), (ONE, NIL)), True)
        self.assertIs(lies_in_disc((ONE, NIL), (NIL, (BIG - 1, BIG))), False)
        self.assertIs(lies_in_disc((LESS, NIL), (NIL, ONE)), True)
        self.assertIs(lies_in_disc((LESS, (1, BIG)), (NIL, ONE)), False)
        self.assertIs(lies_in_disc(other=(NIL, (BIG + 1, BIG)), disc=(LESS, (1, BIG))), True)

    def test_lies_in_disc_as_kinds_do(self):
        random = Random(1)
        seen = set()
        for _ in range(400):
            one, other = random_disc(random, 3), random_disc(random, 3)
            if one[1] == NIL or other[1] == NIL:
                continue
            wanted = lies_in(kind_of_disc(one), kind_of_disc(other))
            self.assertIs(lies_in_disc(one, other), wanted, (one, other))
            seen.add(wanted)
        self.assertEqual(seen, {True, False})

    def test_sum_and_multiple(self):
        self.assertEqual(sum_disc(FIRM, NEAR), (HALF, (3, 2)))
        self.assertEqual(sum_disc(disc=((-1, 3), NIL), other=((1, 3), (1, 6))), (NIL, (1, 6)))
        self.assertEqual(scaled_disc(FIRM, (-2, 1)), (LESS, ONE))
        self.assertEqual(scaled_disc(fraction=NIL, disc=((BIG, 1), (BIG, 2))), (NIL, NIL))
        self.assertEqual(scaled_disc(((-BIG, 2), (BIG, 2)), (-2, BIG)), (ONE, ONE))
        self.assertEqual(sum_disc(((1, BIG), (1, BIG)), ((-1, BIG), (1, BIG))), (NIL, (2, BIG)))

    def test_multiples_and_sums_are_blends(self):
        random = Random(2)
        for _ in range(60):
            one, weight = random_disc(random), random_fraction(random, 4)
            c, r = scaled_disc(one, weight)
            self.assertTrue(blend_fits(one, NEAR, (NIL, weight, NIL), (c, r)))
            less = disc(number(c), number(r) * 99 / 100)
            self.assertIs(blend_fits(one, NEAR, (NIL, weight, NIL), less), r == NIL)

    def test_kind_of_disc(self):
        self.assertEqual(kind_of_disc(FIRM), (2, 1, 0))
        self.assertEqual(kind_of_disc(disc=NEAR), (1, 0, -1))
        self.assertEqual(kind_of_disc(((-BIG, 1), ONE)), (1, -BIG, BIG * BIG - 1))
        with self.assertRaises(NoKind):
            kind_of_disc((ONE, NIL))
        random = Random(3)
        for _ in range(100):
            one = random_disc(random)
            if one[1] == NIL:
                continue
            found = kind_of_disc(one)
            self.assertTrue(is_kind(found))
            self.assertEqual(found, disc_kind(*one))
            self.assertEqual(centre_of(found), one[0])
            self.assertEqual(number(radius_square(found)), number(one[1]) ** 2)
            self.assertEqual(disc_of_kind(found), one)

    def test_disc_of_kind(self):
        self.assertEqual(disc_of_kind(kind=(2, 1, 0)), FIRM)
        for kind in ((1, 0, -2), (0, 1, 0), (0, -1, 3), (-1, 0, 1), (-1, 2, 0), (2, 1, -1)):
            self.assertIsNone(disc_of_kind(kind))
        self.assertEqual(disc_of_kind((1, -BIG, BIG * BIG - 1)), ((-BIG, 1), ONE))
        self.assertIsNone(disc_of_kind((1, -BIG, BIG * BIG - 2)))
        for kind in small_kinds(4):
            found = disc_of_kind(kind)
            square = kind[1] ** 2 - kind[0] * kind[2]
            wanted = kind[0] > 0 and any(number * number == square for number in range(square + 1))
            self.assertEqual(found is not None, wanted, kind)
            if wanted:
                self.assertTrue(is_disc(found))
                self.assertEqual(kind_of_disc(found), kind)


class Lines(unittest.TestCase):
    def test_by_hand(self):
        self.assertEqual(blend_lines(FIRM, FIRM, CHAIN, (2, 5)), (((17, 200), (-3, 40)), ((1, 8), (1, 8))))
        self.assertEqual(blend_lines(centre=HALF, mix=MEAN, second=NEAR, first=NEAR), ((NIL, NIL), ((1, 4), NIL)))

    def test_against_the_words(self):
        for blend in random_blends(200, 4):
            p, q = lines_of(*blend)
            upper, lower = blend_lines(*blend)
            self.assertEqual(upper, (pair(p(0)), pair(p(1) - p(0))))
            self.assertEqual(lower, (pair(q(0)), pair(q(1) - q(0))))

    def test_large_numbers(self):
        huge = (((BIG, 7), (1, BIG)), ((3, BIG), (BIG, 11)), ((1, BIG), (BIG, 2), (-BIG, 3)), (BIG, 5))
        p, q = lines_of(*huge)
        self.assertEqual(blend_lines(*huge), ((pair(p(0)), pair(p(1) - p(0))), (pair(q(0)), pair(q(1) - q(0)))))


class Place(unittest.TestCase):
    def check(self, blend, place, worst=None):
        self.assertEqual(blend_place(*blend), place, blend)
        p, q = lines_of(*blend)
        at = 0 if place is None else number(place)
        self.assertEqual(blend_worst(*blend), (pair(p(at)), pair(q(at))), blend)
        if worst is not None:
            self.assertEqual(blend_worst(*blend), worst, blend)

    def test_neither_rises_or_falls(self):
        for blend in ((NEAR, NEAR, MEAN, HALF), ((NIL, ONE), (NIL, ONE), CHAIN, NIL), (((2, 1), NIL), NEAR, MEAN, ONE),
                      (NEAR, (ONE, NIL), (HALF, ONE, NIL), HALF), (FIRM, NEAR, (ONE, NIL, NIL), NIL)):
            self.check(blend, None)

    def test_one_does_not(self):
        # q is level, as C is 0; p rises, then falls.
        rising = ((NIL, ONE), (ONE, ONE), (ONE, ONE, ONE), NIL)
        self.check(rising, ONE, ((9, 1), ONE))
        self.check((*rising[:3], TWO), LESS, ((9, 1), ONE))
        # p is level, as w1 + w2 C' is 0; q rises, then falls.
        self.check((FIRM, NEAR, (ONE, NIL, ONE), NIL), ONE, (ONE, ONE))
        self.check((((-1, 2), HALF), NEAR, (ONE, NIL, ONE), NIL), LESS, (ONE, ONE))

    def test_both_rise_or_fall(self):
        self.check((FIRM, FIRM, CHAIN, NIL), ONE, ((1, 4), (1, 4)))
        self.check((((-1, 2), HALF), FIRM, CHAIN, NIL), LESS, ((1, 4), (1, 4)))

    def test_one_rises_and_one_falls(self):
        self.check((FIRM, FIRM, CHAIN, (2, 5)), (1, 3), ((3, 50), (1, 6)))
        # Just at 1 and a little before and beyond.
        self.check((FIRM, FIRM, CHAIN, (1, 3)), ONE, ((1, 36), (1, 4)))
        found = blend_place(FIRM, FIRM, CHAIN, (10 ** 300 + 1, 3 * 10 ** 300))
        self.assertLess(number(found), 1)
        self.assertGreater(number(found), Fraction(99, 100))
        self.check((FIRM, FIRM, CHAIN, pair(Fraction(10 ** 300 - 1, 3 * 10 ** 300))), ONE)
        # Turned over: with C below 0 the place is the opposite.
        over = ((-1, 2), HALF)
        self.check((over, FIRM, CHAIN, (-2, 5)), (-1, 3), ((3, 50), (1, 6)))
        self.check((over, FIRM, CHAIN, (-1, 3)), LESS, ((1, 36), (1, 4)))
        self.assertGreater(number(blend_place(over, FIRM, CHAIN, (-10 ** 300 - 1, 3 * 10 ** 300))), -1)
        self.check((over, FIRM, CHAIN, pair(Fraction(1 - 10 ** 300, 3 * 10 ** 300))), LESS)

    def test_no_other_place_is_as_high(self):
        seen = set()
        for blend in random_blends(250, 5):
            place = blend_place(*blend)
            p, q = lines_of(*blend)
            if place is None:
                self.assertEqual((p(0), q(0)), (p(1), q(1)))
                self.assertEqual(blend_worst(*blend), (pair(p(0)), pair(q(0))))
                continue
            at = number(place)
            self.assertTrue(-1 <= at <= 1)
            self.assertEqual(blend_worst(*blend), (pair(p(at)), pair(q(at))))
            best = height(blend, at)
            for t in [Fraction(k, 8) for k in range(-8, 9)] + [at + Fraction(1, 999), at - Fraction(1, 999)]:
                if -1 <= t <= 1 and t != at:
                    self.assertLess(height(blend, t), best, blend)
            seen.add(place if place in (ONE, LESS) else "between")
        self.assertEqual(seen, {ONE, LESS, "between"})


class Blends(unittest.TestCase):
    def test_by_hand(self):
        self.assertIs(blend_fits(FIRM, FIRM, CHAIN, ((1, 3), (2, 3))), True)
        self.assertIs(blend_fits(FIRM, FIRM, CHAIN, ((1, 3), (2 * 10 ** 300 - 1, 3 * 10 ** 300))), False)
        self.assertIs(blend_fits(FIRM, FIRM, CHAIN, ((2, 5), (3, 5))), False)
        self.assertIs(blend_fits(disc=FIRM, mix=MEAN, second=NEAR, first=NEAR), True)
        self.assertIs(blend_fits(NEAR, NEAR, MEAN, (HALF, (10 ** 300 - 1, 2 * 10 ** 300))), False)

    def test_radius_of_nought(self):
        self.assertIs(blend_fits((TWO, NIL), ((3, 1), NIL), (ONE, ONE, ONE), ((9, 1), NIL)), True)
        self.assertIs(blend_fits((TWO, NIL), ((3, 1), NIL), (ONE, ONE, ONE), ((9 * BIG + 1, BIG), NIL)), False)
        self.assertIs(blend_fits((TWO, NIL), ((3, 1), NIL), (ONE, ONE, ONE), ((9 * BIG + 1, BIG), (1, BIG))), True)
        self.assertIs(blend_fits(FIRM, NEAR, (ONE, NIL, NIL), (ONE, NIL)), True)
        self.assertIs(blend_fits(FIRM, NEAR, (NIL, ONE, NIL), FIRM), True)
        # r r - P - Q is below 0, though its square is large.
        self.assertIs(blend_fits(NEAR, NEAR, (ONE, ONE, ONE), (NIL, NIL)), False)
        self.assertIs(blend_fits(NEAR, NEAR, (TWO, ONE, ONE), (NIL, (1, 9))), False)

    def test_against_decimals(self):
        seen = []
        random = Random(6)
        for blend in random_blends(300, 7):
            one, other = map(number, blend_worst(*blend))
            least = root(one) + root(other)
            radius = random.choice((Fraction(least).limit_denominator(50), abs(number(random_fraction(random, 5)))))
            gap = least - Decimal(radius.numerator) / Decimal(radius.denominator)
            if abs(gap) > TINY:
                found = blend_fits(*blend[:3], (blend[3], pair(radius)))
                self.assertIs(found, gap < 0, (blend, radius))
                seen.append(found)
        self.assertEqual(set(seen), {True, False})

    def test_equality(self):
        """Where both roots are fractions, the least radius is one: it fits, and no less one does."""
        for blend in random_blends(300, 8):
            one, other = map(number, blend_worst(*blend))
            roots = [Fraction(isqrt(part.numerator), isqrt(part.denominator)) for part in (one, other)]
            if [part * part for part in roots] == [one, other]:
                least = sum(roots)
                self.assertIs(blend_fits(*blend[:3], (blend[3], pair(least))), True, blend)
                self.assertIs(blend_fits(*blend[:3], (blend[3], pair(least + Fraction(1, BIG)))), True, blend)
                if least > 0:
                    less = pair(least * (1 - Fraction(1, 10 ** 300)))
                    self.assertIs(blend_fits(*blend[:3], (blend[3], less)), False, blend)
                self.assertEqual(blend_near(*blend, least.denominator), (least.numerator, True), blend)

    def test_blends_of_turns(self):
        """Turns of the discs, taken as numbers of the plane, never go beyond, and some reach the rim."""
        random = Random(9)
        for blend in random_blends(150, 10):
            (c, r), (d, s) = (tuple(float(number(part)) for part in each) for each in blend[:2])
            w0, w1, w2 = (float(number(part)) for part in blend[2])
            centre = float(number(blend[3]))
            one, other = map(number, blend_worst(*blend))
            least = float(root(one) + root(other))
            place = blend_place(*blend)
            t = 0.0 if place is None else float(number(place))
            reach = c + r * complex(t, max(0.0, 1 - t * t) ** 0.5)
            plain = w0 - centre + (w1 + w2 * d) * reach
            lean = w2 * s * reach
            turn = plain / lean * abs(lean) / abs(plain) if abs(plain) * abs(lean) > 1e-12 else 1
            worst = w0 + w1 * reach + w2 * (d + s * turn) * reach
            self.assertAlmostEqual(abs(worst - centre), least, 6)
            for _ in range(20):
                some = c + r * random.random() * cmath.exp(7j * random.random())
                behind = d + s * random.choice((1, random.random())) * cmath.exp(7j * random.random())
                self.assertLessEqual(abs(w0 + w1 * some + w2 * behind * some - centre), least + 1e-9)

    def test_near(self):
        self.assertEqual(blend_near(FIRM, FIRM, CHAIN, (2, 5), 1000), (653, False))
        self.assertEqual(blend_near(many=7, centre=NIL, mix=CHAIN, second=FIRM, first=FIRM), (7, True))
        self.assertEqual(blend_near(NEAR, NEAR, MEAN, HALF, 3), (1, False))
        self.assertEqual(blend_near(NEAR, NEAR, MEAN, HALF, 10 ** 6), (500000, True))
        self.assertEqual(blend_near((TWO, NIL), ((3, 1), NIL), (ONE, ONE, ONE), (9, 1), 1), (0, True))
        self.assertEqual(blend_near((TWO, NIL), ((3, 1), NIL), (ONE, ONE, ONE), (9 * BIG + 1, BIG), 5), (0, False))
        self.assertEqual(blend_near(NEAR, NEAR, (NIL, NIL, (BIG, 1)), NIL, 2), (2 * BIG, True))
        self.assertEqual(blend_near(NEAR, NEAR, (NIL, NIL, (BIG, 2)), NIL, 1), (BIG // 2, False))

    def test_near_is_not_the_difference_of_the_roots(self):
        # root P is 13 / 10, root Q 3 / 10: their difference is just 1, their sum less than 2.
        blend = (((13, 10), NIL), (NIL, (3, 13)), (NIL, ONE, ONE), NIL)
        self.assertEqual(blend_worst(*blend), ((169, 100), (9, 100)))
        self.assertEqual(blend_near(*blend, 1), (1, False))
        self.assertEqual(blend_near(*blend, 5), (8, True))
        self.assertEqual(blend_near(*blend, 10), (16, True))

    def test_near_against_decimals(self):
        random = Random(11)
        for blend in random_blends(300, 12):
            one, other = map(number, blend_worst(*blend))
            many = random.choice((1, 2, 7, 12, 1000, 10 ** 6))
            least = (root(one) + root(other)) * many
            count, is_just = blend_near(*blend, many)
            self.assertLessEqual(count, least + TINY)
            self.assertGreater(count + 1, least + TINY)
            self.assertIs(is_just, abs(least - count) < TINY)

    def test_large_numbers(self):
        blend = (((1, BIG), (BIG, 1)), ((BIG, 2), (1, BIG)), ((BIG, 3), ONE, (5, BIG)))
        for centre in ((BIG, 7), (-BIG, 7), (1, BIG)):
            place = blend_place(*blend, centre)
            p, q = lines_of(*blend, centre)
            one, other = map(number, blend_worst(*blend, centre))
            self.assertEqual((one, other), (p(number(place)), q(number(place))))
            count, is_just = blend_near(*blend, centre, 10)
            self.assertIs(blend_fits(*blend, (centre, pair(Fraction(count + 1, 10)))), True)
            self.assertIs(blend_fits(*blend, (centre, pair(Fraction(count, 10)))), is_just)


class Shares(unittest.TestCase):
    def test_by_hand(self):
        self.assertEqual(chain_share(HALF, HALF), (2, 3))
        self.assertEqual(chain_share(other=(1, 3), share=HALF), (3, 5))
        self.assertEqual(chain_share((1, BIG), (1, BIG)), pair(Fraction(2, BIG + 1)))

    def test_no_lesser_share(self):
        parts = [Fraction(k, 5) for k in range(1, 5)] + [Fraction(1, 9), Fraction(8, 9), Fraction(1, BIG)]
        for s in parts:
            for t in parts:
                found = number(chain_share(pair(s), pair(t)))
                self.assertEqual(found, (s + t - 2 * s * t) / (1 - s * t))
                self.assertTrue(0 < found < 1)
                first, second = disc(1 - s, s), disc(1 - t, t)
                self.assertTrue(blend_fits(first, second, CHAIN, disc(1 - found, found)))
                less = found * (1 - Fraction(1, 10 ** 300))
                self.assertFalse(blend_fits(first, second, CHAIN, disc(1 - less, less)))

    def test_averaged_as_kinds(self):
        for s in (Fraction(1, 2), Fraction(2, 7), Fraction(9, 10)):
            self.assertEqual(kind_of_disc(disc(1 - s, s)), averaged(pair(s)))

    def test_splitting(self):
        """x / 2 + T(S x) / 2 is averaged by 1 / 2 and by no lesser share."""
        self.assertTrue(blend_fits(NEAR, NEAR, MEAN, FIRM))
        for less in (Fraction(1, 3), Fraction(10 ** 300 - 1, 2 * 10 ** 300)):
            self.assertFalse(blend_fits(NEAR, NEAR, MEAN, disc(1 - less, less)))


if __name__ == "__main__":
    unittest.main()
