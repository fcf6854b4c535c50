"""Points [13] to [15]: lots, bringing near, spreading, sizes and best steps."""

import unittest
from decimal import Decimal
from fractions import Fraction
from random import Random

from bringnear.errors import EmptyLot
from bringnear.kinds import bounded, disc_kind, gap_between, is_gap, is_kind, lies_in, one_way, pulled
from bringnear.leads import led, step_lead
from bringnear.lots import (
    any_gap, best_step, breaking_gap, brings, is_empty, is_lot, lot_lies_in, size_near, spreads,
)
from tests.helpers import (
    ANYTHING, HALF, LESS, NIL, ONE, TINY, TWO, as_gap, corner_gaps, greatest_value, is_true_gap, number, pair,
    random_lots, small_gaps, small_kinds, told, value_at,
)

BIG = 10 ** 399 + 9
CALM, UP, FIRM, FAR = (1, 0, -1), (0, 1, 0), (2, 1, 0), (1, 2, 3)
STRONG = (one_way(ONE), bounded(TWO))
LAST, FLAT = (NIL, NIL, ONE), (ONE, NIL, NIL)
NOTHING = (bounded(ONE), one_way(TWO))
# (1, 2, 4) alone, where two lines meet on the rim.
TOUCH = (bounded(TWO), one_way(TWO))
# b at most 0 and at least 0, b at most 1 / 2 and at least 1 / 2.
STILL = ((0, 1, 0), (0, -1, 0))
HALFWAY = ((0, 1, 1), (0, -1, -1))
EVERY = (1, 0, 1)


def step_brings(lot, h, square):
    """Whether the steps x - h u of the lot bring near by the square."""
    return brings(tuple(led(kind, step_lead(pair(h))) for kind in lot), pair(square))


class IsLot(unittest.TestCase):
    def test_lots(self):
        for value in ((CALM,), (CALM, UP), (CALM, CALM, CALM), (CALM, UP, FIRM, FAR), ((BIG, 0, -1),)):
            self.assertIs(is_lot(value), True, value)
        self.assertIs(is_lot(value=(CALM,)), True)

    def test_other_values(self):
        for value in (*ANYTHING, (), CALM, [CALM], (CALM,) * 5, (CALM, (1, 1, 1)), ((2, 0, -2),), (CALM, [1, 0, -1]),
                      (CALM, None), ((True, 0, -1),), ((CALM,),), (CALM, (CALM, UP))):
            self.assertIs(is_lot(value), False, value)


class Gaps(unittest.TestCase):
    def check_gap(self, lot, gap, kind=None):
        self.assertTrue(is_gap(gap) and is_true_gap(gap), (lot, gap))
        for each in lot:
            self.assertLessEqual(value_at(each, told(gap)), 0, (lot, gap))
        if kind is not None:
            self.assertGreater(value_at(kind, told(gap)), 0, (lot, kind, gap))

    def check_empty(self, lot, wanted):
        self.assertIs(is_empty(lot), wanted, lot)
        found = any_gap(lot)
        if wanted:
            self.assertIsNone(found, lot)
        else:
            self.check_gap(lot, found)

    def check_lies(self, lot, kind, wanted):
        self.assertIs(lot_lies_in(lot, kind), wanted, (lot, kind))
        found = breaking_gap(lot, kind)
        if wanted:
            self.assertIsNone(found, (lot, kind))
        else:
            self.check_gap(lot, found, kind)

    def test_by_hand(self):
        for lot, wanted in ((STRONG, False), (NOTHING, True), (TOUCH, False), (STILL, False), (HALFWAY, False),
                            ((CALM, (-1, 0, 2)), True), ((CALM, (-1, 0, 1)), False), ((UP, (0, -1, -1)), False)):
            self.check_empty(lot, wanted)
        self.check_lies(STRONG, pulled((1, 4)), True)
        self.check_lies(STRONG, pulled((10 ** 300 + 1, 4 * 10 ** 300)), False)
        self.check_lies(STRONG, bounded(TWO), True)
        self.check_lies(STRONG, bounded((2 * 10 ** 300 - 1, 10 ** 300)), False)

    def test_by_name(self):
        self.assertIs(is_empty(lot=NOTHING), True)
        self.assertIsNone(any_gap(lot=NOTHING))
        self.assertIs(lot_lies_in(kind=CALM, lot=STRONG), False)
        self.assertIsNone(breaking_gap(kind=bounded(TWO), lot=STRONG))

    def test_each_kind_alone(self):
        for kind in small_kinds(2):
            self.check_empty((kind,), False)
            self.check_lies((kind,), kind, True)

    def test_one_gap_alone(self):
        self.assertEqual(told(any_gap(TOUCH))[1] / told(any_gap(TOUCH))[0], 2)
        self.assertEqual(told(any_gap(TOUCH))[2] / told(any_gap(TOUCH))[0], 4)
        self.check_lies(TOUCH, disc_kind(TWO, (1, 10 ** 300)), True)
        self.check_lies(TOUCH, bounded(pair(Fraction(2 * 10 ** 300 - 1, 10 ** 300))), False)
        # The ends (1, -1, 1) and (1, 1, 1) of c = a, c at least a.
        ends = ((1, 0, -1), (-1, 0, 1), (-1, 2, -3))
        self.check_empty(ends, False)
        self.check_empty(((1, 0, -1), (-1, 3, -5)), False)
        self.check_empty(((1, 0, -1), one_way((10 ** 300 + 1, 10 ** 300))), True)

    def test_multiples_of_the_last_gap_alone(self):
        """b from N on and up to - N for a = 1: just (0, 0, 1) is left."""
        alone = (one_way(ONE), (0, -1, 2))
        self.check_empty(alone, False)
        self.assertEqual(any_gap(alone)[:2], (NIL, NIL))
        self.check_lies(alone, (0, 1, 5), True)
        self.check_lies(alone, CALM, False)
        self.check_empty((*alone, (BIG, 0, -1)), True)
        self.check_empty((*alone, (-1, 0, 1)), False)
        self.check_lies((*alone, (-1, 0, 1)), bounded((BIG, 1)), False)

    def test_multiples_of_the_first_gap_alone(self):
        """b at least c and b at most - c: just (1, 0, 0) is left."""
        alone = (pulled(ONE), (2, -1, 0))
        self.check_empty(alone, False)
        self.assertEqual(any_gap(alone)[1:], (NIL, NIL))
        self.check_lies(alone, CALM, True)
        self.check_lies(alone, FAR, False)
        self.check_empty((*alone, FAR), True)

    def test_stretch_of_a_line(self):
        self.check_lies(HALFWAY, (0, 1, 1), True)
        self.check_lies(HALFWAY, CALM, False)
        self.check_lies((*HALFWAY, CALM), (-4, 0, 1), True)
        self.check_lies((*HALFWAY, CALM), (-3, 0, 1), False)
        self.check_empty((*HALFWAY, CALM, (-1, 0, 1)), False)
        self.check_empty((*HALFWAY, CALM, one_way((3, 5))), True)

    def test_open_kinds(self):
        self.check_empty(((-1, 0, 1), (-1, 0, 4), (-2, 1, 0), (-1, 3, 5)), False)
        self.check_lies(((-1, 0, 1),), CALM, False)
        self.check_lies(((-1, 0, 4),), (-1, 0, 1), True)
        self.check_lies(((-1, 0, 1),), (-1, 0, 4), False)
        # All of what the open kind does not hold is held by the lot, which no line of it shows.
        self.check_lies((bounded((5, 1)),), (-4, 0, 1), False)
        self.check_lies((bounded((5, 1)), one_way((-9, 1))), (-8, -1, 0), False)

    def test_against_decimals(self):
        kinds = small_kinds(3)
        random = Random(21)
        for lot in random_lots(2500, 20):
            most = greatest_value(lot, EVERY)
            self.check_empty(lot, most is None)
            for kind in (random.choice(kinds), random.choice(lot)):
                reach = greatest_value(lot, kind)
                self.check_lies(lot, kind, reach is None or reach <= TINY)

    def test_against_grid(self):
        gaps = small_gaps(4)
        random = Random(23)
        kinds = small_kinds(2)
        for lot in random_lots(400, 22, 2):
            held = [gap for gap in gaps if all(value_at(kind, gap) <= 0 for kind in lot)]
            if is_empty(lot):
                self.assertEqual(held, [])
            kind = random.choice(kinds)
            if lot_lies_in(lot, kind):
                self.assertFalse([gap for gap in held if value_at(kind, gap) > 0])

    def test_lots_of_one(self):
        kinds = small_kinds(2)
        random = Random(24)
        for _ in range(500):
            kind, other = random.choice(kinds), random.choice(kinds)
            self.check_lies((kind,), other, lies_in(kind, other))
            self.assertEqual(breaking_gap((kind,), other) is None, gap_between(kind, other) is None)

    def test_an_empty_lot_lies_in_each_kind(self):
        for kind in small_kinds(2):
            self.check_lies(NOTHING, kind, True)
            self.check_lies((*NOTHING, UP, CALM), kind, True)

    def test_large(self):
        close = (disc_kind((BIG, 1), (1, BIG)), disc_kind((BIG ** 2 + 2, BIG), (1, BIG)))
        self.check_empty(close, False)
        self.check_lies(close, one_way((BIG ** 2 + 1, BIG)), True)
        self.check_lies(close, one_way((BIG ** 2 + 2, BIG)), False)
        self.check_empty((close[0], disc_kind((BIG ** 2 + 3, BIG), (1, BIG))), True)
        self.check_lies(((1, 0, -BIG),), bounded((10 ** 199, 1)), False)
        self.check_lies(((1, 0, -BIG), UP), (1, 0, -BIG - 1), True)


class BringsAndSpreads(unittest.TestCase):
    def test_by_hand(self):
        below = (4 * 10 ** 300 - 1, 10 ** 300)
        self.assertIs(brings(STRONG, (4, 1)), True)
        self.assertIs(brings(STRONG, below), False)
        self.assertIs(spreads(STRONG, ONE), True)
        self.assertIs(spreads(STRONG, (10 ** 300 + 1, 10 ** 300)), False)
        self.assertIs(brings((UP,), (9, 1)), False)
        self.assertIs(spreads((UP,), NIL), True)
        self.assertIs(spreads((UP,), (1, 10 ** 300)), False)
        self.assertIs(brings(square=(4, 1), lot=STRONG), True)
        self.assertIs(spreads(square=TWO, lot=STRONG), False)

    def test_nil(self):
        flat = (pulled(ONE), (2, -1, 0))
        self.assertIs(brings(flat, NIL), True)
        self.assertIs(spreads(flat, NIL), True)
        self.assertIs(spreads(flat, (1, BIG)), False)
        self.assertIs(brings((CALM,), NIL), False)
        self.assertIs(spreads((CALM,), NIL), True)

    def test_last_gap(self):
        alone = (one_way(ONE), (0, -1, 2))
        self.assertIs(brings(alone, (BIG, 1)), False)
        self.assertIs(spreads(alone, (BIG, 1)), True)

    def test_empty(self):
        for square in (NIL, ONE, (1, BIG), (BIG, 1)):
            self.assertIs(brings(NOTHING, square), True)
            self.assertIs(spreads(NOTHING, square), True)

    def test_one_gap(self):
        self.assertEqual([brings(TOUCH, (4, 1)), brings(TOUCH, (399, 100)), spreads(TOUCH, (4, 1)),
                          spreads(TOUCH, (401, 100))], [True, False, True, False])

    def test_against_decimals(self):
        squares = [Fraction(top, bottom) for top in range(5) for bottom in (1, 2, 3)]
        random = Random(31)
        for lot in random_lots(1200, 30):
            square = random.choice(squares)
            top, bottom = square.numerator, square.denominator
            for found, cut in ((brings(lot, pair(square)), (bottom, 0, -top)),
                               (spreads(lot, pair(square)), (-bottom, 0, top))):
                reach = greatest_value(lot, cut)
                self.assertIs(found, reach is None or reach <= TINY, (lot, square))


class Sizes(unittest.TestCase):
    def test_by_hand(self):
        self.assertEqual(size_near(STRONG, 10), (20, True))
        self.assertEqual(size_near(((4, 1, -2),), 2), (2, True))
        self.assertIsNone(size_near((UP,), 10))
        self.assertIsNone(size_near(((-1, 0, 1),), 1))
        self.assertIsNone(size_near((one_way(ONE), (0, -1, 2)), 1))
        self.assertEqual(size_near(many=1000, lot=((1, 0, -2),)), (1414, False))
        self.assertEqual(size_near(((1, 0, -2),), 10 ** 6), (1414213, False))
        self.assertEqual(size_near(((9, 0, -1),), 1), (0, False))
        self.assertEqual(size_near(((9, 0, -1),), 10), (3, False))
        self.assertEqual(size_near(((9, 0, -1),), 3), (1, True))
        self.assertEqual(size_near((pulled(ONE), (2, -1, 0)), 7), (0, True))
        self.assertEqual(size_near(TOUCH, 1), (2, True))
        # The disc round 3 with the radius 1, and that round - 3.
        self.assertEqual([size_near((disc_kind((part, 1), ONE),), 1) for part in (3, -3)], [(4, True)] * 2)
        # c + 3 b + a at most 0 ends at b = (- 3 - root 5) / 2.
        self.assertEqual(size_near(((2, -3, 2),), 1000), (2618, False))
        self.assertEqual(size_near(((2, 3, 2),), 1000), (2618, False))

    def test_ends_that_are_cut_off(self):
        """One end of the line is left, or only a meeting of lines."""
        self.assertEqual(size_near(((1, 1, -7), (0, -1, 0)), 1000), (2645, False))
        self.assertEqual(size_near(((1, 1, -7), (0, 1, 0)), 1000), (3828, False))
        self.assertEqual(size_near(((1, 1, -7), (0, -1, -2)), 1000), (3000, True))
        self.assertEqual(size_near(((1, 0, -3), (-1, 0, 3)), 1000), (1732, False))
        self.assertEqual(size_near(((1, 0, -3), one_way(ONE), (0, -1, -2)), 1000), (1732, False))
        self.assertEqual(size_near(((1, 0, -4), (0, -1, -2)), 1000), (2000, True))

    def test_empty(self):
        for many in (1, 10 ** 6):
            with self.assertRaises(EmptyLot):
                size_near(NOTHING, many)

    def test_against_decimals(self):
        for lot in random_lots(1500, 40):
            corners = corner_gaps(lot)
            if not corners:
                with self.assertRaises(EmptyLot):
                    size_near(lot, 10)
            elif all(kind[0] <= 0 for kind in lot):
                self.assertIsNone(size_near(lot, 10))
            else:
                most = max(gap[2] / gap[0] for gap in corners)
                for many in (1, 6, 1000):
                    self.check_near(lot, most, many)

    def check_near(self, lot, square, many):
        count, is_just = size_near(lot, many)
        self.assertIs(type(count), int)
        self.assertIs(is_just, abs(square - (Decimal(count) / many) ** 2) < TINY, (lot, many))
        self.assertLessEqual(Decimal(count) ** 2, square * many ** 2 + TINY)
        self.assertLess(square * many ** 2, Decimal(count + 1) ** 2 - TINY)

    def test_against_bringing(self):
        for lot in random_lots(600, 41, 6):
            if is_empty(lot) or size_near(lot, 12) is None:
                continue
            count, is_just = size_near(lot, 12)
            self.assertIs(brings(lot, pair(Fraction(count, 12) ** 2)), is_just, lot)
            self.assertTrue(brings(lot, pair(Fraction(count + 1, 12) ** 2)))
            if count:
                self.assertFalse(brings(lot, pair(Fraction(12 * count - 1, 144) ** 2)))

    def test_large(self):
        self.assertEqual(size_near((bounded((BIG, 7)),), 7), (BIG, True))
        self.assertEqual(size_near((disc_kind((BIG, 1), (1, 2)),), 1), (BIG, False))
        self.assertEqual(size_near((disc_kind((-BIG, 1), (1, 2)),), 2), (2 * BIG + 1, True))
        count, is_just = size_near(((1, BIG, 1),), 10 ** 6)
        self.assertEqual((count, is_just), (2 * BIG * 10 ** 6 - 1, False))


class BestStep(unittest.TestCase):
    def test_by_hand(self):
        self.assertEqual(best_step(STRONG), ((1, 4), (3, 4)))
        self.assertEqual(best_step(lot=(FAR,)), (HALF, (1, 4)))
        self.assertEqual(best_step(((1, -2, 3),)), ((-1, 2), (1, 4)))
        self.assertEqual(best_step((one_way((-1, 10 ** 300)), bounded((7, 1)))), None)
        self.assertEqual(best_step(((0, -1, 2), bounded(TWO))), ((-1, 4), (3, 4)))
        # One gap alone, on the rim: the step goes to one place.
        self.assertEqual(best_step(TOUCH), (HALF, NIL))
        self.assertEqual(best_step((bounded(TWO), (0, -1, 4))), ((-1, 2), NIL))

    def test_none(self):
        for lot in ((CALM,), (UP,), (FIRM,), ((-1, 0, 1),), STILL, HALFWAY, (one_way(ONE), (0, -1, 2)),
                    (pulled(ONE), (2, -1, 0)), (UP, bounded(TWO)), (one_way(ONE),), (pulled(ONE),),
                    (UP, (1, 0, -4), (-1, 0, 1))):
            self.assertIsNone(best_step(lot), lot)

    def test_empty(self):
        with self.assertRaises(EmptyLot):
            best_step(NOTHING)

    def test_one_kind(self):
        for kind in small_kinds(4):
            first, second, third = kind
            if first > 0 and third > 0:
                wanted = (pair(Fraction(first, second)), pair(Fraction(second ** 2 - first * third, second ** 2)))
            else:
                wanted = None
            self.assertEqual(best_step((kind,)), wanted, kind)

    def check_best(self, lot, found):
        h, square = map(number, found)
        self.assertTrue(0 <= square < 1)
        self.assertTrue(step_brings(lot, h, square), (lot, found))
        if square > 0:
            self.assertFalse(step_brings(lot, h, square * Fraction(10 ** 9 - 1, 10 ** 9)))
        for other in (h * Fraction(1001, 1000), h * Fraction(999, 1000), h * 2, h / 2, -h):
            self.assertFalse(step_brings(lot, other, square), (lot, found, other))

    def check_none(self, lot):
        for h in map(Fraction, ("1", "-1", "1/2", "-1/2", "1/10", "-1/10", "3", "-3", "1/1000", "-1/1000")):
            self.assertFalse(step_brings(lot, h, Fraction(10 ** 9 - 1, 10 ** 9)), (lot, h))

    def test_against_bringing(self):
        some = 0
        for lot in random_lots(1500, 50):
            if is_empty(lot):
                continue
            found = best_step(lot)
            if found is None:
                self.check_none(lot)
            else:
                self.check_best(lot, found)
                some += 1
        self.assertGreater(some, 100)

    def test_large(self):
        narrow = disc_kind((BIG, 1), (1, BIG))
        found = best_step((narrow, one_way((BIG, 1))))
        self.check_best((narrow, one_way((BIG, 1))), found)
        first, second, third = narrow
        self.assertEqual(best_step((narrow, UP)),
                         (pair(Fraction(first, second)), pair(Fraction(second ** 2 - first * third, second ** 2))))


class LargeLots(unittest.TestCase):
    def large_lots(self, count, seed, figures=300):
        """Lots that hold one told gap, their numbers of some hundred figures."""
        random = Random(seed)
        for _ in range(count):
            p, q, up = (random.randint(-10 ** figures, 10 ** figures) for _ in range(3))
            gap = (p * p, p * q, q * q + abs(up))
            lot = []
            while len(lot) < random.randint(1, 4):
                numbers = [random.randint(-10 ** figures, 10 ** figures) for _ in range(3)]
                sign = -1 if value_at(numbers, gap) > 0 else 1
                kind = tuple(sign * part for part in numbers)
                if is_kind(kind):
                    lot.append(kind)
            yield tuple(lot), gap

    def test_gaps(self):
        for lot, gap in self.large_lots(60, 71):
            self.assertFalse(is_empty(lot))
            found = any_gap(lot)
            self.assertTrue(is_gap(found) and is_true_gap(found))
            for kind in lot:
                self.assertLessEqual(value_at(kind, told(found)), 0)
                self.assertTrue(lot_lies_in(lot, kind))
            against = tuple(-part for part in lot[0])
            found = breaking_gap(lot, against)
            if found is None:
                self.assertGreaterEqual(0, value_at(against, gap))
            else:
                self.assertGreater(value_at(against, told(found)), 0)
                self.assertTrue(all(value_at(kind, told(found)) <= 0 for kind in lot))

    def test_sizes_and_steps(self):
        steps = 0
        for lot, gap in self.large_lots(60, 72):
            near = size_near(lot, 1000)
            if near is not None:
                count, is_just = near
                self.assertLessEqual(Fraction(gap[2], gap[0]), Fraction(count + 1, 1000) ** 2)
                self.assertTrue(brings(lot, pair(Fraction(count + 1, 1000) ** 2)))
                self.assertIs(brings(lot, pair(Fraction(count, 1000) ** 2)), is_just)
            found = best_step(lot)
            if found is not None:
                h, square = map(number, found)
                self.assertTrue(step_brings(lot, h, square))
                self.assertFalse(step_brings(lot, h * Fraction(10 ** 9 + 1, 10 ** 9), square))
                steps += 1
        self.assertGreater(steps, 3)


class Repeated(unittest.TestCase):
    def test_equal_calls_return_equal_results(self):
        for lot in random_lots(50, 60):
            for told_by in (any_gap, is_empty):
                self.assertEqual(told_by(lot), told_by(tuple(tuple(kind) for kind in lot)))
            self.assertEqual(breaking_gap(lot, FIRM), breaking_gap(lot, FIRM))

    def test_order_and_repetition_do_not_matter(self):
        for lot in random_lots(300, 61):
            turned = lot[::-1]
            self.assertIs(is_empty(lot), is_empty(turned))
            self.assertIs(is_empty(lot), is_empty((lot + lot)[:4] if len(lot) < 3 else lot))
            self.assertIs(lot_lies_in(lot, CALM), lot_lies_in(turned, CALM))
            if not is_empty(lot):
                self.assertEqual(size_near(lot, 5), size_near(turned, 5))
                self.assertEqual(best_step(lot), best_step(turned))

    def test_what_is_told_may_be_passed(self):
        for lot in random_lots(200, 62):
            found = any_gap(lot)
            if found is not None:
                self.assertEqual([is_gap(found), as_gap(told(found))], [True, found])


if __name__ == "__main__":
    unittest.main()
