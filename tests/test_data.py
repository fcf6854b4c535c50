"""Points [23] and [24]: data, which of them fit, what a place can be led to, middle, room and bearing weights."""

import unittest
from fractions import Fraction
from itertools import permutations
from random import Random

from bringnear.data import bearing, could_lead, is_data, middle, misfit, room, settled
from bringnear.errors import InvalidRow, Misfit
from bringnear.kinds import gap_of, holds
from bringnear.tables import blend_table, keeps_kind, run_of_table
from tests.helpers import HALF, LESS, NIL, ONE, TWO, number, pair, small_kinds
from tests.known import (
    BIG, CALM, FAR, FIRM, HALVED, balls, cases, dot, is_row, known, least_misfit, moved_by, nought, parts, random_row,
    row, square,
)

CLOSED = [kind for kind in small_kinds(3) if kind[0] > 0]
APART, ALONG = known((0, 1), (2, 1)), known((0, 1), (2, 3))
TINY = Fraction(1, 10 ** 300)


def borne(weights, around):
    """The sum of the centres of balls, each times its weight."""
    columns = zip(*(centre for centre, _ in around))
    return [sum(part * number for part, number in zip(weights, column)) for column in columns]


class IsData(unittest.TestCase):
    def test_data(self):
        one = ((NIL,), (ONE,))
        for value in ((one,), APART, (one,) * 6, known(((1, 2, 3), (4, 5, 6))), known(((1, 2), (BIG, 5))),
                      known((0, 1), (0, 2))):
            self.assertIs(is_data(value), True)
        for value in ((), one, [one], (one,) * 7, (one, known(((1, 2), (3, 4)))[0]), ((((), ()),)), (((), ()),),
                      (((ONE,) * 4, (ONE,) * 4),), (([NIL], (ONE,)),), (((NIL,), (ONE,), (ONE,)),),
                      (((NIL,), (ONE, ONE)),), (((NIL,), (None,)),), (((NIL,), ((2, 2),)),), None, 7):
            self.assertIs(is_data(value), False, value)


class Fitting(unittest.TestCase):
    def test_by_hand(self):
        self.assertIsNone(misfit(CALM, APART))
        self.assertIsNone(misfit(CALM, ALONG))
        self.assertEqual(misfit(HALVED, ALONG), (0, 1))
        self.assertEqual(misfit(data=known((0, 0), (1, 1), (2, 0), (3, 3)), kind=CALM), (2, 3))
        self.assertIsNone(misfit(CALM, known((5, 7))))

    def test_alike_and_the_same_place(self):
        self.assertIsNone(misfit(CALM, known((0, 1), (0, 1))))
        self.assertIsNone(misfit(HALVED, known((0, 1)) * 6))
        self.assertEqual(misfit(CALM, known((0, 1), (0, 2))), (0, 1))
        self.assertEqual(misfit((1, 0, -10 ** 600), known((0, 1), (5, 1), (0, 1 + TINY))), (0, 2))

    def test_rim(self):
        # One unknown: the steepest and the flattest that a map may be, and the way out from there.
        for kind, steep, out in ((CALM, 1, 1), (CALM, -1, -1), (HALVED, Fraction(1, 2), 1),
                                 (HALVED, Fraction(-1, 2), -1), (FIRM, 0, -1), (FIRM, 1, 1), (FAR, 1, -1), (FAR, 3, 1)):
            self.assertIsNone(misfit(kind, known((1, 2), (3, 2 + 2 * steep))))
            self.assertEqual(misfit(kind, known((1, 2), (3, 2 + 2 * steep + out * TINY))), (0, 1))
            self.assertIsNone(misfit(kind, known((1, 2), (3, 2 + 2 * steep - out * TINY))))
            self.assertIsNone(misfit(kind, known(((1, 2), (2, 5)), ((3, 2), (2 + 2 * steep, 5)))))
            self.assertEqual(misfit(kind, known(((1, 2), (2, 5)), ((3, 2), (2 + 2 * steep, 5 + TINY)))), (0, 1))

    def test_the_least_pair(self):
        data = known((0, 0), (10, 0), (11, 5), (1, 5), (20, 0))
        self.assertEqual(misfit(CALM, data), (0, 3))
        seen = set()
        for order in permutations(range(5)):
            turned = tuple(data[at] for at in order)
            found = misfit(CALM, turned)
            self.assertEqual(found, least_misfit(CALM, turned))
            seen.add(found)
        self.assertGreater(len(seen), 5)

    def test_against_gaps(self):
        random = Random(1)
        seen = set()
        for _ in range(400):
            many = random.randint(1, 3)
            kind = random.choice(CLOSED)
            data = tuple((random_row(random, many, 2), random_row(random, many, 2)) for _ in range(2))
            if random.random() < 0.2:
                data = (data[0], (data[0][0], data[1][1]))
            found = misfit(kind, data)
            wanted = None if data[0] == data[1] or holds(kind, gap_of(*data[0], *data[1])) else (0, 1)
            self.assertEqual(found, wanted, (kind, data))
            seen.add(found)
        self.assertEqual(len(seen), 2)

    def test_data_of_tables_fit(self):
        random = Random(2)
        for _ in range(60):
            many = random.randint(1, 3)
            table = tuple(random_row(random, many, 2) for _ in range(many))
            added = random_row(random, many)
            places = [random_row(random, many) for _ in range(6)]
            data = tuple((place, run_of_table(table, added, place, 1)[1]) for place in places)
            for kind in (CALM, FIRM, FAR, (1, 0, -9), (1, 1, -3)):
                if keeps_kind(table, kind):
                    self.assertIsNone(misfit(kind, data))
                    other = random_row(random, many)
                    value = run_of_table(table, added, other, 1)[1]
                    self.assertTrue(could_lead(kind, data, other, value))

    def test_large_numbers(self):
        wide = (1, 0, -BIG ** 2)
        self.assertIsNone(misfit(wide, known((Fraction(1, 7), 0), (Fraction(8, 7), BIG))))
        self.assertEqual(misfit(wide, known((Fraction(1, 7), 0), (Fraction(8, 7), BIG + TINY))), (0, 1))
        start = ((0, 3 * BIG), (0, 0))
        self.assertIsNone(misfit(CALM, known(start, ((4 * BIG, 0), (5 * BIG, 0)))))
        self.assertEqual(misfit(CALM, known(start, ((4 * BIG, 0), (5 * BIG + Fraction(1, BIG), 0)))), (0, 1))


class CouldLead(unittest.TestCase):
    def test_by_hand(self):
        self.assertIs(could_lead(CALM, APART, (ONE,), (TWO,)), True)
        self.assertIs(could_lead(CALM, APART, (ONE,), ((5, 2),)), False)
        self.assertIs(could_lead(value=(NIL,), place=(ONE,), data=APART, kind=CALM), True)
        self.assertIs(could_lead(CALM, APART, (ONE,), row(-TINY)), False)
        self.assertIs(could_lead(CALM, APART, (NIL,), (ONE,)), True)
        self.assertIs(could_lead(CALM, APART, (NIL,), (TWO,)), False)
        self.assertIs(could_lead(CALM, ALONG, (HALF,), ((3, 2),)), True)
        self.assertIs(could_lead(CALM, ALONG, (HALF,), row(Fraction(3, 2) + TINY)), False)

    def test_as_misfit_tells_of_the_pair_more(self):
        random = Random(3)
        seen = set()
        for kind, data, place in cases(CLOSED, 250, 4):
            if len(data) == 6:
                data = data[:5]
            self.assertIsNone(misfit(kind, data))
            centre, _ = random.choice(balls(kind, data, place))
            found = middle(kind, data, place)
            beside = row(*[part + Fraction(random.randint(-2, 2), 2) for part in parts(found)])
            for value in (random_row(random, len(place)), found, row(*centre), beside):
                found = could_lead(kind, data, place, value)
                self.assertIs(found, misfit(kind, (*data, (place, value))) is None, (kind, data, place, value))
                seen.add(found)
        self.assertEqual(seen, {True, False})


class Middles(unittest.TestCase):
    def check(self, kind, data, place):
        """All of [24]; that the middle is right is seen by the bearing weights."""
        found, free, weights = middle(kind, data, place), room(kind, data, place), bearing(kind, data, place)
        told = (kind, data, place)
        self.assertTrue(is_row(found, len(place)), told)
        self.assertTrue(is_row((free,), 1) and free[0] >= 0, told)
        self.assertTrue(is_row(weights, len(data)), told)
        m, space, w = parts(found), number(free), parts(weights)
        around = balls(kind, data, place)
        heights = [square(m, centre) - reach for centre, reach in around]
        self.assertEqual(max(heights), -space, told)
        self.assertTrue(min(w) >= 0 and sum(w) == 1, told)
        self.assertEqual(borne(w, around), m, told)
        self.assertEqual(dot(w, heights), -space, told)
        self.assertIs(could_lead(kind, data, place, found), True, told)
        self.assertEqual(settled(kind, data, place), found if space == 0 else None, told)
        if space == 0:
            self.check_others(kind, data, place, m, TINY, False)
        else:
            # |u - m| (|u - m| + 2 |m - c|) is to be at most the room; all roots here are below 10 ** 6.
            self.check_others(kind, data, place, m, min(1, space) / 10 ** 8, True)
            self.check_others(kind, data, place, m, max(1, space) * (1 + TINY), False)
        return space

    def check_others(self, kind, data, place, m, way, wanted):
        for at in range(len(m)):
            for sign in (1, -1):
                value = list(m)
                value[at] += sign * way
                self.assertIs(could_lead(kind, data, place, row(*value)), wanted, (kind, data, place, value))

    def test_by_hand(self):
        self.assertEqual(middle(CALM, APART, (ONE,)), (ONE,))
        self.assertEqual(room(place=(ONE,), data=APART, kind=CALM), ONE)
        self.assertIsNone(settled(CALM, APART, (ONE,)))
        self.assertEqual(settled(CALM, ALONG, (ONE,)), (TWO,))
        self.assertEqual(bearing(CALM, ALONG, (ONE,)), (HALF, HALF))
        self.assertEqual(room(CALM, ALONG, (ONE,)), NIL)

    def test_one_pair(self):
        for kind in CLOSED:
            a, b, d = kind
            for data, place in ((known((1, 2)), row(3)), (known(((1, 2), (0, 1))), row(1, 5)),
                                (known(((0, 0, 0), (1, 2, 3))), row(1, 2, 2))):
                space = self.check(kind, data, place)
                self.assertEqual(space, Fraction(b * b - a * d, a * a) * square(parts(place), parts(data[0][0])))
                self.assertEqual(bearing(kind, data, place), (ONE,))
                self.assertEqual(settled(kind, data, data[0][0]), data[0][1])
                self.check(kind, data, data[0][0])

    def test_one_ball_is_enough(self):
        # The ball of the second pair lies within that of the first one, or just within.
        self.assertEqual(bearing(CALM, known((0, 0), (9, 0)), row(8)), (NIL, ONE))
        self.assertEqual(middle(CALM, known((0, 0), (9, 0)), row(8)), (NIL,))
        self.assertEqual(room(CALM, known((0, 0), (9, 0)), row(8)), ONE)
        self.assertEqual(middle(CALM, known((0, 0), (9, 7)), row(8)), (pair(7),))
        self.check(CALM, known((0, 0), (9, 7)), row(8))
        self.assertEqual(middle(CALM, known((0, 0), (9, 9)), row(8)), (pair(8),))
        self.check(CALM, known((0, 0), (9, 9)), row(8))

    def test_between_several(self):
        # Three centres at equal distance from the middle, in the plane, and four in space.
        data = known(((5, 0), (5, 0)), ((-3, 4), (-3, 4)), ((-3, -4), (-3, -4)))
        self.assertEqual(settled(CALM, data, row(0, 0)), row(0, 0))
        self.check(CALM, data, row(0, 0))
        wide = (1, 0, -4)
        self.assertEqual(middle(wide, data, row(0, 0)), row(0, 0))
        self.assertEqual(room(wide, data, row(0, 0)), (75, 1))
        self.assertEqual(min(parts(bearing(wide, data, row(0, 0)))) > 0, True)
        corners = ((1, 1, 1), (1, -1, -1), (-1, 1, -1), (-1, -1, 1))
        data = known(*((corner, corner) for corner in corners))
        self.assertEqual(bearing(wide, data, row(0, 0, 0)), ((1, 4),) * 4)
        self.assertEqual(room(wide, data, row(0, 0, 0)), (9, 1))
        self.assertEqual(settled(CALM, data, row(0, 0, 0)), row(0, 0, 0))
        self.check(CALM, data, row(Fraction(1, 7), 0, Fraction(-1, 5)))
        self.check(CALM, data, row(2, 0, 0))

    def test_six_pairs_that_hang_together(self):
        """Centres on one line, in one plane, on one ball, and all in one row."""
        line = known(*(((k, 0), (Fraction(k, 2), 0)) for k in range(6)))
        for place in (row(2, 0), row(Fraction(5, 2), 0), row(0, 3), row(9, 1)):
            self.check(CALM, line, place)
            self.check(HALVED, line, place)
        self.assertEqual(settled(HALVED, line, row(Fraction(5, 2), 0)), row(Fraction(5, 4), 0))
        plane = known(*(((k, k * k, 0), (0, k, 0)) for k in range(-2, 4)))
        for place in (row(0, 0, 1), row(1, 1, 0), row(Fraction(1, 2), 2, Fraction(1, 3))):
            self.check(CALM, plane, place)
        ends = ((1, 0, 0), (-1, 0, 0), (0, 1, 0), (0, -1, 0), (0, 0, 1), (0, 0, -1))
        for kind in (CALM, (1, 0, -3), FIRM, (1, 1, -1)):
            data = known(*((end, end) for end in ends))
            if misfit(kind, data) is None:
                self.check(kind, data, row(0, 0, 0))
                self.check(kind, data, row(Fraction(1, 3), Fraction(1, 3), Fraction(1, 3)))
        one = known(*((end, (0, 0, 0)) for end in ends))
        self.assertEqual(middle(CALM, one, row(0, 0, 0)), row(0, 0, 0))
        self.assertEqual(room(CALM, one, row(0, 0, 0)), ONE)
        self.check(CALM, one, row(0, 0, 0))

    def test_pairs_alike(self):
        for data in (known((0, 1)) * 6, APART * 3, ALONG * 2, ALONG + APART[:1]):
            for place in (row(1), row(0), row(-4), row(Fraction(1, 3))):
                self.check(CALM, data, place)
                less = tuple(each for at, each in enumerate(data) if each not in data[:at])
                self.assertEqual(middle(CALM, data, place), middle(CALM, less, place))
                self.assertEqual(room(CALM, data, place), room(CALM, less, place))

    def test_all_words(self):
        seen = set()
        for kind, data, place in cases(CLOSED, 400, 5):
            space = self.check(kind, data, place)
            on_data = [value for x, value in data if x == place]
            if on_data:
                self.assertEqual(settled(kind, data, place), on_data[0])
            seen.add((len(place), space == 0, bool(on_data)))
        self.assertEqual(len(seen), 9)

    def test_order_does_not_matter(self):
        for kind, data, place in cases(CLOSED, 60, 6):
            turned = data[::-1]
            self.assertEqual(middle(kind, data, place), middle(kind, turned, place))
            self.assertEqual(room(kind, data, place), room(kind, turned, place))

    def test_identity_of_weights(self):
        """For any weights with the sum 1 the sum is |u - m'|^2 more than at m'."""
        random = Random(7)
        for kind, data, place in cases(CLOSED, 60, 8):
            around = balls(kind, data, place)
            w = parts(bearing(kind, data, place))
            m = parts(middle(kind, data, place))
            u = parts(random_row(random, len(place)))
            total = sum(part * (square(u, centre) - reach) for part, (centre, reach) in zip(w, around))
            self.assertEqual(total, square(u, m) - number(room(kind, data, place)))

    def test_settled_places_have_one_value(self):
        count = 0
        random = Random(9)
        for kind, data, place in cases(CLOSED, 200, 10):
            value = settled(kind, data, place)
            if value is None:
                continue
            count += 1
            self.assertIs(could_lead(kind, data, place, value), True)
            for _ in range(4):
                other = random_row(random, len(place))
                self.assertIs(could_lead(kind, data, place, other), other == value)
            if len(data) < 6:
                self.assertEqual(settled(kind, (*data, (place, value)), place), value)
        self.assertGreater(count, 40)

    def test_blends_have_values_within_the_room(self):
        """Tables that keep the kind and have the data: their values are at most so far from the middle."""
        random = Random(11)
        for _ in range(60):
            many = random.randint(1, 3)
            one = tuple(random_row(random, many, 1) for _ in range(many))
            mean = blend_table(one, one, (HALF, HALF, NIL))
            place = random_row(random, many)
            for kind in (CALM, (1, 0, -4), (1, 1, -3)):
                if keeps_kind(one, kind) and keeps_kind(mean, kind):
                    data = ((nought(many), nought(many)),)
                    for table in (one, mean):
                        value = run_of_table(table, nought(many), place, 1)[1]
                        way = square(parts(value), parts(middle(kind, data, place)))
                        self.assertLessEqual(way, number(room(kind, data, place)))

    def test_large_numbers(self):
        """Stretched by a large number and moved, all goes with it."""
        big = Fraction(BIG, 7)
        for kind, data, place in cases(CLOSED, 40, 12):
            moved = tuple((moved_by(x, big, 1 / big), moved_by(u, big, -big)) for x, u in data)
            at = moved_by(place, big, 1 / big)
            self.assertEqual(middle(kind, moved, at), moved_by(middle(kind, data, place), big, -big))
            self.assertEqual(number(room(kind, moved, at)), big * big * number(room(kind, data, place)))
            self.assertIs(could_lead(kind, moved, at, middle(kind, moved, at)), True)

    def test_large_kinds(self):
        wide = (BIG, 1, -BIG ** 3)
        for data, place in ((APART, row(Fraction(1, BIG))),
                            (known(((1, BIG), (2, 3)), ((BIG, 1), (Fraction(1, BIG), 4))), row(BIG, BIG)),
                            (known(((BIG, 1, 3), (0, 0, 0)), ((0, BIG, 2), (1, 0, 0)), ((1, 1, BIG), (0, 1, 0)),
                                   ((-BIG, 1, 1), (0, 0, 1))), row(Fraction(1, 3), Fraction(2, BIG), 1))):
            found, free = parts(middle(wide, data, place)), number(room(wide, data, place))
            w = parts(bearing(wide, data, place))
            around = balls(wide, data, place)
            heights = [square(found, centre) - reach for centre, reach in around]
            self.assertEqual(max(heights), -free)
            self.assertTrue(min(w) >= 0 and sum(w) == 1)
            self.assertEqual(borne(w, around), found)
            self.assertEqual(dot(w, heights), -free)


class Rows(unittest.TestCase):
    def test_rows_as_long_as_those_of_the_data(self):
        for many in (1, 2, 3):
            data = (((ONE,) * many, (LESS,) * many),)
            good = (NIL,) * many
            for other in (0, 1, 2, 3, 4):
                if other == many:
                    continue
                wrong = (NIL,) * other
                for call, rows in ((middle, (wrong,)), (room, (wrong,)), (settled, (wrong,)), (bearing, (wrong,)),
                                   (could_lead, (wrong, None)), (could_lead, (good, wrong))):
                    with self.assertRaises(InvalidRow) as caught:
                        call(CALM, data, *rows)
                    self.assertIsNone(caught.exception.index)

    def test_misfits_are_told(self):
        data = known((0, 0), (1, 1), (2, 4), (3, 9))
        one = row(0)
        for call, rows in ((middle, (one,)), (room, (one,)), (settled, (one,)), (bearing, (one,)),
                           (could_lead, (one, one))):
            with self.assertRaises(Misfit) as caught:
                call(CALM, data, *rows)
            self.assertEqual(caught.exception.index, misfit(CALM, data))
            self.assertEqual(caught.exception.index, (0, 2))


if __name__ == "__main__":
    unittest.main()
