"""Points [27] to [30]: spans, points, marks, rises, misfits, rings, values, ranges, and the kind of a span."""

import unittest
from fractions import Fraction
from itertools import permutations
from random import Random

from bringnear.errors import InvalidIndex, InvalidMarks, InvalidPoints, NoFunction
from bringnear.functions import difference_range, is_span, kind_of_span, misfit_of_marks, ring, rise, values_for
from bringnear.kinds import gap_of, holds, is_kind, kind_of, one_way
from tests.helpers import HALF, LESS, NIL, ONE, TWO, as_gap, number, pair, small_gaps
from tests.known import BIG, moved_by, row
from tests.slopes import (
    SPANS, WIDE_SPANS, cases, greatest_way, has_misfit, known_marks, known_points, least_misfit, leaning_points,
    marks_of_function, random_points, ring_sum, rings, rise_by_words, rise_table, whirled_points, with_values,
)

PLAIN, OPEN, STRONG = (NIL, ONE), (NIL, None), (ONE, (3, 1))
TINY = Fraction(1, 10 ** 300)
# Two by two some function has them, but not all three: the slopes turn around.
QUARTER = known_points(((1, 0), (0, 1)), ((0, 1), (-1, 0)), ((-1, 0), (0, -1)))
# Likewise for the span (0, 2): the slope is the place and its turn, so that each two just go together.
WHIRL = known_points(((1, 0), (1, 1)), ((0, 1), (-1, 1)), ((-1, 0), (-1, -1)))


class Spans(unittest.TestCase):
    def test_spans(self):
        for value in (*SPANS, *WIDE_SPANS, (NIL, None), (ONE, TWO), (NIL, (1, BIG)), ((BIG, 1), None)):
            self.assertIs(is_span(value), True, value)
        for value in ((ONE, ONE), (NIL, NIL), (TWO, ONE), (LESS, ONE), (LESS, None), (None, None), (NIL,), NIL,
                      (NIL, ONE, ONE), [NIL, ONE], (NIL, (2, 2)), (NIL, 1), (0, None), (NIL, True), (NIL, ()),
                      ((BIG, 7), (BIG, 7)), ((BIG, 7), (BIG - 1, 7)), None, "ab", 7):
            self.assertIs(is_span(value), False, value)
        self.assertIs(is_span(value=(NIL, None)), True)


class Rises(unittest.TestCase):
    def test_by_hand(self):
        pair_of_points = known_points((1, 1), (0, 0))
        self.assertEqual(rise(PLAIN, pair_of_points, 0, 1), HALF)
        self.assertEqual(rise(PLAIN, pair_of_points, 1, 0), (-1, 2))
        self.assertEqual(rise(OPEN, pair_of_points, 0, 1), NIL)
        self.assertEqual(rise(OPEN, pair_of_points, 1, 0), LESS)
        self.assertEqual(rise((TWO, None), pair_of_points, 0, 1), ONE)
        self.assertEqual(rise(STRONG, known_points((1, 2), (0, 0)), 0, 1), (3, 4))
        self.assertEqual(rise(second=1, first=0, points=known_points((1, 2), (0, 0)), span=STRONG), (3, 4))
        # With the same place |g - h|^2 over 2 (L - M) is left.
        self.assertEqual(rise(STRONG, known_points(((1, 5), (2, 0)), ((1, 5), (-1, 0))), 0, 1), (9, 4))
        # The function that is M |x|^2 / 2 has the very value, L |x|^2 / 2 too.
        self.assertEqual(rise(STRONG, known_points((4, 4), (2, 2)), 0, 1), (6, 1))
        self.assertEqual(rise(STRONG, known_points((4, 12), (2, 6)), 0, 1), (18, 1))

    def test_by_the_words(self):
        seen = set()
        for span, points in cases(300, 1, spans=SPANS + WIDE_SPANS):
            for first, one in enumerate(points):
                for second, other in enumerate(points):
                    found = rise(span, points, first, second)
                    self.assertEqual(found, pair(rise_by_words(span, one, other)), (span, one, other))
                    seen.add((span[1] is None, span[0] == NIL, number(found) > 0, len(one[0])))
        self.assertEqual(len(seen), 24)

    def test_to_the_same_point(self):
        for span in SPANS + WIDE_SPANS:
            points = known_points(((1, 2), (3, 4)), ((BIG, 2), (Fraction(1, BIG), 4)), ((1, 2), (3, 4)))
            for at in range(3):
                self.assertEqual(rise(span, points, at, at), NIL)
            self.assertEqual(rise(span, points, 0, 2), NIL)

    def test_large_numbers(self):
        points = known_points(((BIG, Fraction(1, BIG)), (BIG - 1, 7)), ((Fraction(2, BIG + 2), -BIG), (0, BIG)))
        for span in SPANS + WIDE_SPANS:
            for first, second in ((0, 1), (1, 0)):
                self.assertEqual(rise(span, points, first, second),
                                 pair(rise_by_words(span, points[first], points[second])))

    def test_indexes(self):
        points = QUARTER
        for wrong in (3, -1, True, False, None, ONE, 10 ** 30):
            for call in (rise, difference_range):
                with self.assertRaises(InvalidIndex) as caught:
                    call(OPEN, points, wrong, 5)
                self.assertIs(caught.exception.given, wrong)
                with self.assertRaises(InvalidIndex) as caught:
                    call(OPEN, points, 2, wrong)
                self.assertIs(caught.exception.given, wrong)


class Misfits(unittest.TestCase):
    def test_by_hand(self):
        for value, wanted in ((Fraction(1, 2), None), (Fraction(1, 3), (0, 1)), (1, (1, 0)),
                              (Fraction(1, 2) - TINY, (0, 1)), (Fraction(1, 2) + TINY, (1, 0))):
            self.assertEqual(misfit_of_marks(PLAIN, known_marks((1, 1, value), (0, 0, 0))), wanted)
        # Without an upper number all values between both ends go.
        for value, wanted in ((0, None), (1, None), (Fraction(1, 2), None), (-TINY, (0, 1)), (1 + TINY, (1, 0))):
            self.assertEqual(misfit_of_marks(OPEN, known_marks((1, 1, value), (0, 0, 0))), wanted)
        self.assertIsNone(misfit_of_marks(PLAIN, known_marks((1, 1, 7))))
        self.assertEqual(misfit_of_marks(marks=known_marks((1, 1, 1), (0, 0, 0)), span=PLAIN), (1, 0))

    def test_both_misfit(self):
        # Slopes that fall: the one and the other are too low.
        marks = known_marks((1, -1, 0), (0, 1, 0))
        self.assertTrue(has_misfit(OPEN, marks, 0, 1) and has_misfit(OPEN, marks, 1, 0))
        self.assertEqual(misfit_of_marks(OPEN, marks), (0, 1))

    def test_the_least_pair(self):
        marks = known_marks((0, 0, 0), (1, 1, Fraction(1, 2)), (2, 2, 2), (3, 3, Fraction(9, 2)), (4, 4, 9))
        seen = set()
        for order in permutations(range(5)):
            turned = tuple(marks[at] for at in order)
            found = misfit_of_marks(PLAIN, turned)
            self.assertEqual(found, least_misfit(PLAIN, turned))
            seen.add(found)
        self.assertGreater(len(seen), 4)

    def test_alike_and_the_same_place(self):
        for span in SPANS:
            one = known_marks(((1, 2), (3, 4), 5))
            self.assertIsNone(misfit_of_marks(span, one * 6))
            self.assertEqual(misfit_of_marks(span, one + known_marks(((1, 2), (3, 4), 5 + TINY))), (0, 1))
            self.assertEqual(misfit_of_marks(span, known_marks(((1, 2), (3, 4), 5 + TINY)) + one), (1, 0))
            # Two slopes at one place: only without an upper number.
            two = one + known_marks(((1, 2), (3, 4 + TINY), 5))
            self.assertEqual(misfit_of_marks(span, two), None if span[1] is None else (0, 1))

    def test_marks_of_functions(self):
        random = Random(2)
        for at in range(300):
            span, many = random.choice(SPANS), random.randint(1, 3)
            marks = marks_of_function(random, span, many, random.randint(1, 6))
            self.assertIsNone(misfit_of_marks(span, marks), (span, marks))
            # One more unknown changes nothing.
            if many < 3:
                wider = tuple((x + (NIL,), g + (NIL,), value) for x, g, value in marks)
                self.assertIsNone(misfit_of_marks(span, wider))

    def test_by_the_words(self):
        random = Random(3)
        seen = set()
        for _ in range(400):
            span = random.choice(SPANS + WIDE_SPANS)
            marks = list(marks_of_function(random, random.choice((span, random.choice(SPANS))), random.randint(1, 3),
                                           random.randint(1, 6)))
            if random.random() < 0.5:
                at = random.randrange(len(marks))
                value = number(marks[at][2]) + random.choice((1, -1)) * random.choice((1, Fraction(1, 4), TINY))
                marks[at] = (*marks[at][:2], pair(value))
            found = misfit_of_marks(span, tuple(marks))
            self.assertEqual(found, least_misfit(span, marks), (span, marks))
            seen.add(found)
        self.assertGreater(len(seen), 12)

    def test_wrong_marks(self):
        for marks, index in (((), None), (list(known_marks((1, 1, 1))), None), (known_marks((1, 1, 1)) * 7, 6),
                             (known_marks((1, 1, 1), ((1, 2), (1, 2), 1)), 1), (known_points((1, 1)), 0),
                             ((*known_marks((1, 1, 1)), ((ONE,), (ONE,), 1)), 1)):
            with self.assertRaises(InvalidMarks) as caught:
                misfit_of_marks(PLAIN, marks)
            self.assertEqual(caught.exception.index, index)


class Rings(unittest.TestCase):
    def check(self, span, points):
        found = ring(span, points)
        if found is None:
            self.assertEqual(rings(span, points), [], (span, points))
            return found
        self.assertIsInstance(found, tuple)
        self.assertTrue(len(found) >= 2 and len(set(found)) == len(found))
        self.assertTrue(all(type(at) is int and 0 <= at < len(points) for at in found))
        self.assertGreater(ring_sum(span, points, found), 0)
        return found

    def test_by_hand(self):
        self.assertIsNone(ring(PLAIN, known_points((1, 1), (0, 0))))
        self.assertIsNone(ring(PLAIN, known_points((1, 1))))
        self.assertEqual(sorted(ring(points=known_points((1, 1 + TINY), (0, 0)), span=PLAIN)), [0, 1])
        self.assertEqual(sorted(ring(PLAIN, known_points((1, -TINY), (0, 0)))), [0, 1])
        self.assertEqual(sorted(ring(PLAIN, known_points((5, 1), (1, -TINY), (0, 0)))), [1, 2])
        self.assertIsNone(ring(PLAIN, known_points((1, 0), (0, 0))))

    def test_three_and_none_of_two(self):
        self.assertEqual(ring_sum(OPEN, QUARTER, (2, 1, 0)), 2)
        for points, span in ((QUARTER, OPEN), (WHIRL, (NIL, TWO))):
            self.assertEqual(sorted(self.check(span, points)), [0, 1, 2])
            self.assertEqual(rings(span, points, (2,)), [])
            for at in range(3):
                self.assertIsNone(ring(span, points[:at] + points[at + 1:]))
            more = (*points, points[1])
            self.assertEqual(rings(span, more, (2,)), [])
            self.check(span, more)

    def test_a_ring_that_is_just_none(self):
        """The slopes turn by more and more: at last the sum of a ring is above 0."""
        for turn, wanted in ((0, None), (1, None), (2 - TINY, None), (2, None), (2 + TINY, [0, 1, 2]), (3, [0, 1, 2])):
            # The slopes are the place and t times its turn: around the three the sum is t - 2.
            points = known_points(*(((p, q), (p - turn * q, q + turn * p)) for p, q in ((1, 0), (0, 1), (0, 0))))
            found = self.check(OPEN, points)
            self.assertEqual(None if found is None else sorted(found), wanted, turn)

    def test_six_points(self):
        """Around a six-cornered way: no ring of fewer, but one of all six."""
        corners = ((2, 0), (1, 2), (-1, 2), (-2, 0), (-1, -2), (1, -2))
        seen = set()
        for often in range(0, 60):
            turn = Fraction(often, 40)
            points = known_points(*(((p, q), (p - turn * q, q + turn * p)) for p, q in corners))
            found = self.check(OPEN, points)
            seen.add(None if found is None else len(found))
            if found is not None:
                self.assertEqual(rings(OPEN, points, range(2, len(found))), [])
        self.assertTrue({None, 6} <= seen, seen)

    def test_by_the_words(self):
        seen = set()
        for span, points in cases(240, 4, 5, SPANS + WIDE_SPANS):
            found = self.check(span, points)
            seen.add((len(points), len(points[0][0]), None if found is None else len(found)))
        random = Random(15)
        for at in range(160):
            span = (OPEN, (NIL, (9, 1)), ((1, 9), None))[at % 3]
            points = whirled_points(random, random.randint(2, 3), random.randint(3, 5), Fraction(at % 8, 3))
            found = self.check(span, points)
            seen.add((len(points), len(points[0][0]), None if found is None else len(found)))
        self.assertTrue({(3, 2, 3), (3, 3, 3), (4, 2, 3), (5, 2, 4), (5, 3, 2), (5, 1, 2), (5, 3, None),
                         (5, 2, None)} <= seen, seen)

    def test_points_of_functions(self):
        random = Random(5)
        for _ in range(200):
            span = random.choice(SPANS)
            marks = marks_of_function(random, span, random.randint(1, 3), 6)
            self.assertIsNone(ring(span, tuple(mark[:2] for mark in marks)))

    def test_alike_and_the_same_place(self):
        for span in SPANS:
            self.assertIsNone(ring(span, known_points((1, 2)) * 6))
            found = ring(span, known_points((1, 2), (1, 2 + TINY)))
            self.assertEqual(None if found is None else sorted(found), None if span[1] is None else [0, 1])

    def test_large_numbers(self):
        random = Random(6)
        for span, points in cases(60, 7, 4):
            # Places and slopes moved by long fractions, the slopes with them by the lower number.
            move = Fraction(BIG, 7)
            low = number(span[0])
            moved = tuple((moved_by(x, 1, move), moved_by(g, 1, low * move + 1 / move)) for x, g in points)
            self.assertEqual(ring(span, points) is None, self.check(span, moved) is None)
        points = tuple((row(Fraction(random.randint(1, BIG), BIG), BIG),) * 2 for _ in range(6))
        self.assertIsNone(ring(PLAIN, points))
        self.assertIsNotNone(ring((ONE, TWO), (*points[:5], (points[5][0], row(0, 0)))))

    def test_wrong_points(self):
        for points, index in (((), None), (list(QUARTER), None), (QUARTER * 3, 6), ((*QUARTER, ((ONE,), (ONE,))), 3),
                              (known_marks((1, 1, 1)), 0), ((*QUARTER, ((ONE, ONE), (ONE, (2, 2)))), 3)):
            for call in (ring, values_for):
                with self.assertRaises(InvalidPoints) as caught:
                    call(PLAIN, points)
                self.assertEqual(caught.exception.index, index)


class Values(unittest.TestCase):
    def test_none_exactly_if_there_is_a_ring(self):
        seen = set()
        for span, points in cases(300, 8, 6, SPANS + WIDE_SPANS):
            found = values_for(span, points)
            self.assertEqual(found is None, ring(span, points) is not None)
            seen.add(found is None)
            if found is not None:
                self.assertIsInstance(found, tuple)
                self.assertEqual([pair(number(value)) for value in found], list(found))
                self.assertEqual(len(found), len(points))
                marks = tuple((*point, value) for point, value in zip(points, found))
                self.assertIsNone(misfit_of_marks(span, marks))
                self.assertIsNone(least_misfit(span, marks))
        self.assertEqual(len(seen), 2)

    def test_by_hand(self):
        p, q = values_for(PLAIN, known_points((1, 1), (0, 0)))
        self.assertEqual(number(p) - number(q), Fraction(1, 2))
        self.assertEqual(len(values_for(points=known_points((1, 1)), span=PLAIN)), 1)
        self.assertIsNone(values_for(OPEN, QUARTER))
        # A way over the point between leads higher than the straight one.
        points = known_points((0, 0), (1, 1), (2, 2), (3, 3))
        self.assertEqual(number(values_for(OPEN, points)[3]) - number(values_for(OPEN, points)[0]) >= 3, True)


class Ranges(unittest.TestCase):
    def marks_at(self, span, points, first, second, difference):
        """Marks with this difference, and each other value as low as both let it be."""
        values, table = [], rise_table(span, points)
        for at in range(len(points)):
            low = greatest_way(table, at, second) if at != second else Fraction(0)
            high = greatest_way(table, at, first) if at != first else Fraction(0)
            values.append(max(low, difference + high))
        values[first], values[second] = difference, Fraction(0)
        return with_values(points, values)

    def test_by_hand(self):
        points = known_points((1, 1), (0, 0))
        self.assertEqual(difference_range(PLAIN, points, 0, 1), (HALF, HALF))
        self.assertEqual(difference_range(PLAIN, points, 1, 0), ((-1, 2), (-1, 2)))
        self.assertEqual(difference_range(OPEN, points, 0, 1), (NIL, ONE))
        self.assertEqual(difference_range(OPEN, points, 1, 0), (LESS, NIL))
        self.assertEqual(difference_range(second=1, first=0, points=points, span=(HALF, None)), ((1, 4), (3, 4)))
        # The point between makes the range of the ends narrower.
        three = known_points((0, 0), (2, 2), (1, 1))
        self.assertEqual(difference_range(OPEN, three[:2], 1, 0), (NIL, (4, 1)))
        self.assertEqual(difference_range(OPEN, three, 1, 0), (ONE, (3, 1)))

    def test_one_index_twice(self):
        for span, points in cases(60, 9, 4):
            for at in range(len(points)):
                if ring(span, points) is None:
                    self.assertEqual(difference_range(span, points, at, at), (NIL, NIL))
                else:
                    with self.assertRaises(NoFunction):
                        difference_range(span, points, at, at)
        for at in range(3):
            with self.assertRaises(NoFunction):
                difference_range(OPEN, QUARTER, at, at)
        # A ring of other points bars it, too.
        with self.assertRaises(NoFunction):
            difference_range(OPEN, (*QUARTER, QUARTER[0]), 3, 3)

    def test_ends_and_beyond(self):
        count = 0
        for span, points in cases(150, 10, 4, SPANS + WIDE_SPANS):
            if len(points) < 2 or ring(span, points) is not None:
                continue
            for first, second in ((0, 1), (len(points) - 1, 0)):
                low, high = (number(end) for end in difference_range(span, points, first, second))
                self.assertLessEqual(low, high)
                table = rise_table(span, points)
                self.assertEqual(low, greatest_way(table, first, second))
                self.assertEqual(high, -greatest_way(table, second, first))
                for difference in (low, high, (low + 2 * high) / 3):
                    marks = self.marks_at(span, points, first, second, difference)
                    self.assertIsNone(misfit_of_marks(span, marks), (span, marks))
                for beyond in (low - TINY, high + TINY, high + 1):
                    marks = self.marks_at(span, points, first, second, beyond)
                    self.assertIsNotNone(misfit_of_marks(span, marks), (span, marks))
                count += low < high
        self.assertGreater(count, 20)

    def test_values_of_functions_lie_within(self):
        random = Random(11)
        for _ in range(150):
            span = random.choice(SPANS)
            marks = marks_of_function(random, span, random.randint(1, 3), random.randint(2, 6))
            points = tuple(mark[:2] for mark in marks)
            first, second = random.randrange(len(marks)), random.randrange(len(marks))
            low, high = (number(end) for end in difference_range(span, points, first, second))
            difference = number(marks[first][2]) - number(marks[second][2])
            self.assertTrue(low <= difference <= high, (span, marks, first, second))

    def test_turned_around(self):
        for span, points in cases(60, 12, 6):
            if ring(span, points) is None:
                low, high = difference_range(span, points, 0, len(points) - 1)
                back = tuple((-end[0], end[1]) for end in (high, low))
                self.assertEqual(difference_range(span, points, len(points) - 1, 0), back)

    def test_alike_points(self):
        points = known_points(((1, 2), (3, 4)), ((5, 5), (6, 6)), ((1, 2), (3, 4)))
        for span in ((NIL, (9, 1)), OPEN):
            self.assertEqual(difference_range(span, points, 0, 2), (NIL, NIL))
            self.assertEqual(difference_range(span, points, 2, 1), difference_range(span, points, 0, 1))


class KindsOfSpans(unittest.TestCase):
    def test_by_hand(self):
        for span, wanted in ((PLAIN, (2, 1, 0)), (STRONG, (1, 2, 3)), (OPEN, (0, 1, 0)), ((HALF, None), (0, 1, 1)),
                             ((ONE, TWO), (2, 3, 4)), ((HALF, (2, 3)), (12, 7, 4)), (((3, 2), None), (0, 1, 3)),
                             ((NIL, (2, 3)), (3, 1, 0))):
            self.assertEqual(kind_of_span(span), wanted)
        self.assertEqual(kind_of_span(span=PLAIN), (2, 1, 0))

    def test_by_the_words(self):
        for span in SPANS + WIDE_SPANS:
            kind = kind_of_span(span)
            self.assertTrue(is_kind(kind))
            low, high = span
            if high is None:
                self.assertEqual(kind, one_way(low))
            else:
                m, most = number(low), number(high)
                self.assertEqual(kind, kind_of(ONE, pair((m + most) / 2), pair(m * most)))
            for a, b, c in small_gaps(5):
                if high is None:
                    wanted = number(low) * a - b <= 0
                else:
                    wanted = c - (m + most) * b + m * most * a <= 0
                self.assertIs(holds(kind, as_gap((a, b, c))), wanted, (span, (a, b, c)))

    def test_two_points(self):
        """[30]: two points have a ring exactly if they are unlike and the kind does not hold their gap."""
        random = Random(13)
        seen = set()
        for at in range(600):
            span, many = random.choice(SPANS + WIDE_SPANS[:3]), random.randint(1, 3)
            points = random_points(random, many, 2, 2) if at % 2 else leaning_points(random, span, many, 2)
            if at % 10 == 0:
                points = (points[0], (points[0][0], points[1][1]))
            fits = points[0] == points[1] or holds(kind_of_span(span), gap_of(*points[0], *points[1]))
            self.assertIs(ring(span, points) is None, fits, (span, points))
            seen.add((many, fits, points[0][0] == points[1][0], span[1] is None))
        self.assertGreater(len(seen), 18)

    def test_slopes_of_functions_keep_it(self):
        random = Random(14)
        for _ in range(200):
            span = random.choice(SPANS)
            one, other = marks_of_function(random, span, random.randint(1, 3), 2)
            if one[:2] != other[:2]:
                self.assertTrue(holds(kind_of_span(span), gap_of(*one[:2], *other[:2])))


if __name__ == "__main__":
    unittest.main()
