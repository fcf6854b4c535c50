"""Points [10] to [12]: leads, leads with names, leads between kinds."""

import unittest
from fractions import Fraction
from itertools import product
from math import isqrt
from random import Random

from bringnear.kinds import gap_of, holds, is_gap, is_kind
from bringnear.leads import (
    BACK, gap_led, is_lead, lead_back, lead_between, lead_product, led, mean_lead, reflection_lead, resolvent_lead,
    step_lead,
)
from tests.helpers import (
    ANYTHING, HALF, LESS, NIL, ONE, TWO, as_gap, number, pair, random_fraction, random_lead, small_gaps, small_kinds,
)

BIG = 10 ** 399 + 9
STEPS = tuple(map(Fraction, ("1", "-1", "1/2", "-3/2", "4")))


def numbers_of(lead):
    return [[number(part) for part in row] for row in lead]


def led_row(lead, x, u):
    """The pair of rows of fractions led."""
    (e, f), (g, h) = numbers_of(lead)
    place = tuple(pair(e * number(p) + f * number(q)) for p, q in zip(x, u))
    value = tuple(pair(g * number(p) + h * number(q)) for p, q in zip(x, u))
    return place, value


class IsLead(unittest.TestCase):
    def test_leads(self):
        for value in (BACK, ((ONE, NIL), (NIL, ONE)), ((ONE, TWO), (HALF, LESS)), (((BIG, 1), ONE), (ONE, (1, BIG - 1)))):
            self.assertIs(is_lead(value), True, value)
        self.assertIs(is_lead(value=BACK), True)
        self.assertEqual(BACK, ((NIL, ONE), (ONE, NIL)))

    def test_no_inverse(self):
        for value in (((NIL, NIL), (NIL, NIL)), ((ONE, ONE), (ONE, ONE)), ((ONE, HALF), (TWO, ONE)),
                      ((NIL, ONE), (NIL, ONE)), (((BIG, 1), ONE), (ONE, (1, BIG)))):
            self.assertIs(is_lead(value), False, value)

    def test_other_values(self):
        for value in (*ANYTHING, [(NIL, ONE), (ONE, NIL)], ([NIL, ONE], (ONE, NIL)), ((NIL, ONE), [ONE, NIL]),
                      ((0, 1), (1, 0)), ((NIL, ONE),), ((NIL, ONE), (ONE, NIL), (ONE, NIL)), ((NIL, ONE), (ONE,)),
                      ((NIL, ONE), (ONE, NIL, NIL)), ((NIL, (2, 2)), (ONE, NIL)), ((NIL, (1, 0)), (ONE, NIL)),
                      ((NIL, (True, 1)), (ONE, NIL)), ((NIL, ONE), None), ((NIL, ONE), (ONE, "0"))):
            self.assertIs(is_lead(value), False, value)


class Led(unittest.TestCase):
    def test_by_hand(self):
        self.assertEqual(led((1, 2, 3), step_lead(HALF)), (4, 0, -1))
        self.assertEqual(led((1, 2, 3), BACK), (3, 2, 1))
        self.assertEqual(led(kind=(0, 1, 0), lead=resolvent_lead(ONE)), (2, 1, 0))
        self.assertEqual(gap_led((ONE, HALF, HALF), step_lead(ONE)), (ONE, HALF, HALF))
        self.assertEqual(gap_led(gap=(ONE, TWO, (5, 1)), lead=BACK), ((5, 1), TWO, ONE))
        self.assertEqual(gap_led((NIL, NIL, ONE), resolvent_lead(TWO)), ((4, 1), NIL, NIL))

    def test_numbers_of_the_document(self):
        random = Random(11)
        gaps = small_gaps(3)
        for kind in small_kinds(2):
            lead = random_lead(random)
            (e, f), (g, h) = numbers_of(lead)
            first, second, third = kind
            wanted = (first * e * e + 2 * second * e * f + third * f * f,
                      first * e * g + second * (e * h + f * g) + third * f * h,
                      first * g * g + 2 * second * g * h + third * h * h)
            found = led(kind, lead)
            self.assertTrue(is_kind(found))
            scale = [Fraction(part, whole) for part, whole in zip(found, wanted) if whole != 0]
            self.assertTrue(all(part == scale[0] > 0 for part in scale))
            self.assertTrue(all(part == 0 for part, whole in zip(found, wanted) if whole == 0))
            a, b, c = random.choice(gaps)
            wanted = (e * e * a + 2 * e * f * b + f * f * c, e * g * a + (e * h + f * g) * b + f * h * c,
                      g * g * a + 2 * g * h * b + h * h * c)
            self.assertEqual(gap_led(as_gap((a, b, c)), lead), tuple(pair(part) for part in wanted))

    def test_gaps_of_pairs_led(self):
        random = Random(12)
        for _ in range(200):
            length = random.randint(1, 4)
            x, u, y, v = (tuple(random_fraction(random, 4) for _ in range(length)) for _ in range(4))
            if (x, u) == (y, v):
                continue
            lead = random_lead(random)
            found = gap_led(gap_of(x, u, y, v), lead)
            self.assertEqual(found, gap_of(*led_row(lead, x, u), *led_row(lead, y, v)))
            self.assertTrue(is_gap(found))

    def test_keeping_is_led(self):
        random = Random(13)
        gaps = small_gaps(3)
        for kind in small_kinds(2):
            for _ in range(4):
                lead = random_lead(random, 3)
                turned = led(kind, lead)
                for gap in map(as_gap, random.sample(gaps, 8)):
                    self.assertIs(holds(turned, gap_led(gap, lead)), holds(kind, gap))

    def test_edges_stay_edges(self):
        """Equality is led to equality."""
        lead = ((ONE, HALF), ((-3, 1), TWO))
        for kind, gap in (((1, 0, -1), (ONE, NIL, ONE)), ((0, 1, 0), (ONE, NIL, ONE)), ((0, 1, 0), (NIL, NIL, ONE)),
                          ((-1, 0, 2), (ONE, ONE, TWO)), ((1, 1, 0), (ONE, NIL, NIL))):
            for sign in (1, -1):
                opposite = tuple(sign * part for part in kind)
                self.assertTrue(holds(led(opposite, lead), gap_led(gap, lead)))


class Products(unittest.TestCase):
    def test_product(self):
        random = Random(14)
        for kind in small_kinds(1):
            for gap in small_gaps(1):
                lead, other = random_lead(random), random_lead(random)
                both = lead_product(lead, other)
                self.assertTrue(is_lead(both))
                self.assertEqual(led(led(kind, other), lead), led(kind, both))
                self.assertEqual(gap_led(gap_led(as_gap(gap), other), lead), gap_led(as_gap(gap), both))

    def test_by_hand(self):
        self.assertEqual(lead_product(step_lead(HALF), BACK), ((NIL, ONE), ((-1, 2), ONE)))
        self.assertEqual(lead_product(lead=BACK, other=step_lead(HALF)), ((ONE, (-1, 2)), (ONE, NIL)))
        self.assertEqual(lead_back(step_lead(HALF)), ((ONE, NIL), (TWO, (-2, 1))))
        self.assertEqual(lead_back(lead=BACK), BACK)

    def test_back(self):
        random = Random(15)
        for _ in range(100):
            lead = random_lead(random)
            back = lead_back(lead)
            self.assertEqual(lead_product(lead, back), ((ONE, NIL), (NIL, ONE)))
            self.assertEqual(lead_product(back, lead), ((ONE, NIL), (NIL, ONE)))


class Names(unittest.TestCase):
    def check_relation(self, made, wanted):
        """That the pair (x, u) is led to the pair that the words tell."""
        for h in STEPS:
            lead = made(pair(h))
            self.assertTrue(is_lead(lead))
            self.assertEqual(made(step=pair(h)), lead)
            for x, u in product(STEPS, STEPS):
                place, value = led_row(lead, (pair(x),), (pair(u),))
                self.assertEqual((number(place[0]), number(value[0])), wanted(x, u, h))

    def test_step(self):
        self.assertEqual(step_lead(HALF), ((ONE, NIL), (ONE, (-1, 2))))
        self.check_relation(step_lead, lambda x, u, h: (x, x - h * u))

    def test_resolvent(self):
        self.assertEqual(resolvent_lead(HALF), ((ONE, HALF), (ONE, NIL)))
        self.check_relation(resolvent_lead, lambda x, u, h: (x + h * u, x))

    def test_reflection(self):
        self.assertEqual(reflection_lead(HALF), ((ONE, HALF), (ONE, (-1, 2))))
        self.check_relation(reflection_lead, lambda x, u, h: (x + h * u, x - h * u))

    def test_mean(self):
        self.assertEqual(mean_lead((1, 3)), ((ONE, NIL), ((2, 3), (1, 3))))
        self.assertEqual(mean_lead(ONE), ((ONE, NIL), (NIL, ONE)))
        self.check_relation(mean_lead, lambda x, u, h: (x, (1 - h) * x + h * u))

    def test_known_ways(self):
        """What is known of one way maps: their resolvents are averaged by half, their reflections by one."""
        for h in map(pair, STEPS[::2]):
            self.assertEqual(led((0, 1, 0), resolvent_lead(h)), (2, 1, 0) if h[0] > 0 else (-2, -1, 0))
            self.assertEqual(led((0, 1, 0), reflection_lead(h)), (1, 0, -1) if h[0] > 0 else (-1, 0, 1))
        self.assertEqual(led((2, 1, 0), mean_lead(TWO)), (1, 0, -1))


class Between(unittest.TestCase):
    def test_all_small_ones(self):
        kinds = small_kinds(2)
        for kind, other in product(kinds, kinds):
            square = (kind[1] ** 2 - kind[0] * kind[2]) * (other[1] ** 2 - other[0] * other[2])
            lead = lead_between(kind, other)
            if isqrt(square) ** 2 != square:
                self.assertIsNone(lead, (kind, other))
            else:
                self.assertTrue(is_lead(lead), (kind, other))
                self.assertEqual(led(kind, lead), other)

    def test_by_name(self):
        self.assertIsNone(lead_between(kind=(1, 0, -1), other=(1, 0, -2)))
        self.assertEqual(led((1, 0, -2), lead_between(other=(-1, 0, 8), kind=(1, 0, -2))), (-1, 0, 8))

    def test_large(self):
        kinds = ((1, BIG, BIG ** 2 - 1), (BIG, BIG + 1, BIG + 2), (0, 1, BIG), (-1, BIG, 1 - BIG ** 2))
        for kind, other in product(kinds, kinds):
            lead = lead_between(kind, other)
            self.assertTrue(is_lead(lead))
            self.assertEqual(led(kind, lead), other)
            self.assertEqual(led(other, lead_back(lead)), kind)
        self.assertIsNone(lead_between((1, 0, -1), (1, 0, -BIG)))
        self.assertIsNone(lead_between((1, 0, -BIG ** 2), (1, 0, -BIG ** 2 - 1)))


if __name__ == "__main__":
    unittest.main()
