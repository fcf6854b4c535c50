"""The whole program: the modules against each other, and what it returned passed to it again."""

import unittest
from fractions import Fraction
from random import Random

from bringnear.certificates import (
    certify_blend, certify_bringing, certify_descent, certify_function, certify_lot, certify_map, certify_place,
    certify_rest, certify_some, certify_table,
)
from bringnear.checker import accepts
from bringnear.data import bearing, could_lead, middle, misfit, room, settled
from bringnear.discs import blend_worst, chain_share, disc_of_kind, kind_of_disc, scaled_disc, sum_disc
from bringnear.errors import InvalidKind, InvalidSpan, NotClosed
from bringnear.functions import difference_range, kind_of_span, misfit_of_marks, ring, rise, values_for
from bringnear.kinds import averaged, gap_between, gap_of, holds, is_gap, is_kind, kind_of, lies_in, word_of
from bringnear.leads import gap_led, lead_between, lead_product, led, mean_lead
from bringnear.lots import any_gap, best_step, breaking_gap, brings, size_near
from bringnear.rates import breaks_rate, descent, descent_marks, descent_share, descent_weights, is_run, shows_rate
from bringnear.rests import any_rest, can_rest, rest_word
from bringnear.tables import blend_table, breaking_row, keeps_kind, rest_of_table, run_of_table, turn_for
from tests.helpers import HALF, LESS, NIL, ONE, TWO, number, pair, random_lots, small_kinds
from tests.known import CALM, HALVED, cases, known, row
from tests.slopes import SPANS, WIDE_SPANS, cases as point_cases, leaning_points, marks_of_function, random_points

TINY = Fraction(1, 10 ** 300)
# A fraction of more figures than Python itself writes out of a number.
LONG = pair(Fraction(3 ** 12000, 2 ** 18000))
CHAIN = (NIL, NIL, ONE)


class SlopesAndMaps(unittest.TestCase):
    def test_two_points(self):
        random = Random(1)
        seen = set()
        for at in range(400):
            span, many = random.choice(SPANS), random.randint(1, 3)
            points = leaning_points(random, span, many, 2) if at % 2 else random_points(random, many, 2, 1)
            alike = points[0] == points[1]
            held = alike or holds(kind_of_span(span), gap_of(*points[0], *points[1]))
            self.assertIs(ring(span, points) is None, held)
            seen.add((alike, held))
        self.assertEqual(len(seen), 3)

    def test_one_unknown(self):
        """[30]: points of one unknown are had exactly if each two of them are, as maps that keep the kind have them."""
        seen = set()
        for span, points in point_cases(900, 2):
            if len(points[0][0]) > 1:
                continue
            barred = ring(span, points) is not None
            pairs = [(one, other) for one in points for other in points if one != other]
            held = all(holds(kind_of_span(span), gap_of(*one, *other)) for one, other in pairs)
            self.assertIs(barred, not held)
            if span[1] is None:
                with self.assertRaises(NotClosed):
                    misfit(kind_of_span(span), points)
            else:
                self.assertIs(misfit(kind_of_span(span), points) is not None, barred)
            seen.add((len(points), barred, span[1] is None))
        self.assertGreater(len(seen), 18)

    def test_more_unknowns(self):
        """Points of a function are data of a map, but not the other way round."""
        seen = set()
        for span, points in point_cases(400, 3):
            if span[1] is not None:
                found = misfit(kind_of_span(span), points)
                barred = ring(span, points) is not None
                self.assertTrue(barred or found is None)
                seen.add((barred, found is None))
        random = Random(4)
        for _ in range(200):
            # The place and its turn: the kind of (0, 2) just holds all of their gaps.
            places = [(random.randint(-2, 2), random.randint(-2, 2)) for _ in range(3)]
            points = tuple((row(p, q), row(p - q, p + q)) for p, q in places)
            self.assertIsNone(misfit(kind_of_span((NIL, TWO)), points))
            seen.add((ring((NIL, TWO), points) is not None, True))
        self.assertEqual(seen, {(False, True), (True, False), (True, True)})

    def test_slopes_of_functions_are_data(self):
        random = Random(5)
        for _ in range(60):
            span = random.choice([each for each in SPANS if each[1] is not None])
            marks = marks_of_function(random, span, random.randint(1, 3), 6)
            data = tuple(mark[:2] for mark in marks)
            kind = kind_of_span(span)
            self.assertIsNone(misfit(kind, data))
            self.assertTrue(could_lead(kind, data[1:], *data[0]))


class Ranges(unittest.TestCase):
    def test_values_between_the_ends(self):
        """Two points: no misfit between both ends, one beyond them."""
        count = 0
        for span, points in point_cases(300, 6, 2, SPANS + WIDE_SPANS):
            if len(points) < 2 or ring(span, points) is not None:
                continue
            low, high = (number(end) for end in difference_range(span, points, 0, 1))
            for value, fits in ((low, True), (high, True), ((low + high) / 2, True), (low - TINY, False),
                                (high + TINY, False)):
                marks = ((*points[0], pair(value)), (*points[1], NIL))
                self.assertIs(misfit_of_marks(span, marks) is None, fits)
                self.assertIs(accepts(("function", span, points), (pair(value), NIL)), fits)
            self.assertEqual(pair(low), rise(span, points, 0, 1))
            self.assertEqual(pair(-high), rise(span, points, 1, 0))
            count += 1
        self.assertGreater(count, 60)

    def test_values_found_lie_within(self):
        for span, points in point_cases(150, 7):
            values = values_for(span, points)
            if values is not None:
                for first, one in enumerate(values):
                    low, high = (number(end) for end in difference_range(span, points, first, 0))
                    self.assertTrue(low <= number(one) - number(values[0]) <= high)


class Descents(unittest.TestCase):
    def test_shown_and_broken(self):
        """What shows_rate shows breaks_rate never breaks; the marks come just to the share."""
        for size, step in ((ONE, ONE), (TWO, (1, 3)), ((1, 7), (7, 1))):
            for count in range(5):
                span, method, share = (NIL, size), descent(step, count), descent_share(size, step, count)
                marks = descent_marks(size, step, count, (5, 3))
                self.assertIs(is_run(method, marks), True)
                self.assertIsNone(misfit_of_marks(span, marks))
                self.assertEqual(number(marks[-2][2]) - number(marks[-1][2]), number(share) * Fraction(25, 9))
                for often in (Fraction(1, 3), 1 - TINY, 1, 1 + TINY, 4):
                    told = pair(often * number(share))
                    shown = shows_rate(span, method, told, descent_weights(count))
                    self.assertIs(shown, often >= 1)
                    self.assertIs(breaks_rate(span, method, told, marks), not shown)


class LongNumbers(unittest.TestCase):
    """What the package returned may be passed to it, whatever the size of its numbers."""

    def accepted(self, pair_of_both):
        self.assertIs(accepts(*pair_of_both), True)
        return pair_of_both[0][0]

    def test_kinds_and_leads(self):
        lead = mean_lead(chain_share(HALF, HALF))
        for _ in range(14):
            lead = lead_product(lead, lead)
        self.assertTrue(abs(lead[1][0][0]) > 10 ** 5000)
        kind = led((2, 1, 0), lead)
        self.assertTrue(is_kind(kind))
        self.assertEqual(word_of(kind), "closed")
        self.assertEqual(led((2, 1, 0), lead_between((2, 1, 0), kind)), kind)
        gap = gap_led((ONE, ONE, TWO), lead)
        self.assertTrue(is_gap(gap))
        self.assertIs(holds(kind, gap), holds((2, 1, 0), (ONE, ONE, TWO)))
        self.assertIs(lies_in(kind, CALM), gap_between(kind, CALM) is None)
        lot = (kind, CALM)
        self.assertEqual(self.accepted(certify_lot(lot, (2, 1, 0))), "lies in")
        self.assertEqual(self.accepted(certify_lot((CALM,), kind)), "breaks")
        self.assertEqual(self.accepted(certify_some(lot)), "holds some")
        self.assertEqual(self.accepted(certify_bringing(lot, any_gap(lot)[0])), "brings")
        self.assertEqual(certify_lot((CALM,), kind)[1], breaking_gap((CALM,), kind))
        self.assertIsNotNone(size_near(lot, 10 ** 6))
        self.assertIs(best_step(lot) is None, False)
        self.assertIs(brings(lot, best_step((kind,))[1]), False)
        with self.assertRaises(InvalidKind) as caught:
            word_of((kind[0], kind[1], kind[2] + kind[1] ** 2))
        self.assertEqual(caught.exception.given[0], kind[0])

    def test_discs_and_tables(self):
        disc = (HALF, (1, 3))
        for _ in range(14):
            disc = scaled_disc(sum_disc(disc, disc), disc[1])
        self.assertTrue(disc[1][1] > 10 ** 5000)
        self.assertEqual(disc_of_kind(kind_of_disc(disc)), disc)
        self.assertTrue(self.accepted(certify_blend(disc, disc, CHAIN, disc)))
        self.assertTrue(self.accepted(certify_blend(disc, disc, CHAIN, (disc[0], NIL))))
        self.assertEqual(len(blend_worst(disc, disc, CHAIN, disc[1])), 2)
        table = (row(Fraction(1, 5), Fraction(1, 3)), row(Fraction(2, 7), 1))
        for _ in range(12):
            table = blend_table(table, table, CHAIN)
        self.assertTrue(table[0][0][1] > 10 ** 4400)
        self.assertIs(keeps_kind(table, CALM), False)
        self.assertEqual(self.accepted(certify_table(table, CALM)), "table breaks")
        line = breaking_row(table, CALM)
        run = run_of_table(table, line, rest_of_table(table, line), 1)
        self.assertEqual(run[0], run[1])
        self.assertIsNotNone(turn_for((ONE, NIL, pair(number(LONG) ** 2))))

    def test_data(self):
        data = known((0, 1), (2, 3))
        first = (row(number(LONG)), row(number(LONG) + 1))
        self.assertEqual(self.accepted(certify_map(CALM, (*data, first))), "some map")
        self.assertEqual(self.accepted(certify_map(CALM, (*data, first, (first[0], row(0))))), "no map")
        for kind in (CALM, HALVED):
            start = (first[0], middle(kind, data[:1], first[0]))
            known_so = (data[0], start)
            self.assertIsNone(misfit(kind, known_so))
            place = bearing(kind, known_so, row(1))[:1]
            self.assertTrue(self.accepted(certify_place(kind, known_so, place)))
            self.assertIs(settled(kind, known_so, place) is None, room(kind, known_so, place) != NIL)
            self.assertTrue(self.accepted(certify_rest(kind, known_so)))
            self.assertTrue(can_rest(kind, known_so, any_rest(kind, known_so)))
            self.assertIn(rest_word(kind, known_so), ("loose", "sure", "single", "settled"))

    def test_functions_and_rates(self):
        span = (NIL, LONG)
        points = tuple((row(at), row(at * number(LONG) / 2)) for at in range(6))
        self.assertEqual(self.accepted(certify_function(span, points)), "function")
        self.assertEqual(self.accepted(certify_function((LONG, None), points)), "no function")
        values = values_for(span, points)
        marks = tuple((*point, value) for point, value in zip(points, values))
        self.assertIsNone(misfit_of_marks(span, marks))
        self.assertTrue(is_kind(kind_of_span(span)))
        low, high = difference_range(span, points, 0, 5)
        self.assertLessEqual(number(low), number(high))
        size = pair(1 / number(values[1]))
        for count in range(5):
            self.assertEqual(self.accepted(certify_descent(LONG, pair(1 / number(LONG)), count)), "rate")
            self.assertEqual(self.accepted(certify_descent(size, values[1], count)), "rate")
            share = descent_share(size, values[1], count)
            run = descent_marks(size, values[1], count, share)
            self.assertIs(breaks_rate((NIL, size), descent(values[1], count), share, run), False)
            self.assertIs(breaks_rate((NIL, size), descent(values[1], count), NIL, run), True)
        with self.assertRaises(InvalidSpan) as caught:
            kind_of_span((LONG, LONG))
        self.assertEqual(caught.exception.given, (LONG, LONG))


class Papers(unittest.TestCase):
    """[2]: what other functions tell is a paper, too."""

    def test_gaps(self):
        kinds = small_kinds(2)
        for at, one in enumerate(kinds):
            other = kinds[(at * 7 + 3) % len(kinds)]
            gap = gap_between(one, other)
            self.assertIs(accepts(("lies in", (one,), other), ()), gap is None)
            if gap is not None:
                self.assertIs(accepts(("breaks", (one,), other), gap), True)
        for lot in random_lots(100, 8):
            gap = any_gap(lot)
            self.assertIs(accepts(("holds some", lot), gap), gap is not None)
            self.assertIs(accepts(("empty", lot), ()), gap is None)

    def test_weights_and_pairs(self):
        closed = [kind for kind in small_kinds(2) if kind[0] > 0]
        for kind, data, place in cases(closed, 100, 9):
            value = settled(kind, data, place)
            if value is not None:
                self.assertIs(accepts(("settled", kind, data, place, value), bearing(kind, data, place)), True)
            for other in closed[::9]:
                found = misfit(other, data)
                self.assertIs(accepts(("no map", other, data), found), found is not None)

    def test_kinds_of_numbers(self):
        self.assertEqual(kind_of(ONE, NIL, LESS), CALM)
        self.assertEqual(averaged(HALF), kind_of_span((NIL, ONE)))


if __name__ == "__main__":
    unittest.main()
