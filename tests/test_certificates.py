"""The functions of certificates.py: their pairs are accepted, keep the arguments, and tell what is told beside them."""

import unittest
from fractions import Fraction
from random import Random

from bringnear.certificates import (
    certify_bringing, certify_blend, certify_descent, certify_function, certify_lot, certify_map, certify_place,
    certify_rest, certify_some, certify_table,
)
from bringnear.checker import accepts
from bringnear.data import could_lead, middle, misfit, room, settled
from bringnear.discs import blend_fits
from bringnear.functions import ring
from bringnear.kinds import bounded, one_way, pulled
from bringnear.lots import brings, is_empty, lot_lies_in
from bringnear.rates import breaks_rate, descent, descent_marks, descent_share, descent_weights, shows_rate
from bringnear.rests import can_rest, rest_word
from bringnear.tables import keeps_kind
from tests.claims import (
    ALONG, APART, CHAIN, EMPTY, ENDLESS, FIFTHS, HALF_DISC, MEAN, NEAR, QUARTER, SPUN, STRONG, THIN, THIRDS, TURN, UP,
    WORDS,
)
from tests.helpers import HALF, NIL, ONE, TWO, number, pair, random_fraction, random_lots, small_kinds
from tests.known import BIG, CALM, FAR, FIRM, HALVED, cases, known, moved_by, parts, random_row, row
from tests.slopes import SPANS, WIDE_SPANS, cases as point_cases, known_points

TINY = Fraction(1, 10 ** 300)
CLOSED = [kind for kind in small_kinds(3) if kind[0] > 0]


class Certificates(unittest.TestCase):
    def check(self, words, is_first, call, *passed):
        """The pair of a claim, with the one of two words that is so, and its paper."""
        found = call(*passed)
        self.assertIsInstance(found, tuple)
        claim, paper = found
        self.assertIsInstance(claim, tuple)
        self.assertEqual(claim[0], words[0 if is_first else 1], (call, passed))
        for part, argument in zip(claim[1:], passed):
            self.assertIs(part, argument)
        self.assertIs(accepts(claim, paper), True, (claim, paper))
        self.assertEqual(call(*passed), found)
        self.assertIs(accepts((WORDS[WORDS.index(claim[0]) ^ 1], *claim[1:]), paper), False)
        return claim, paper

    def both_sides(self, seen):
        self.assertEqual(seen, {True, False})


class LotCertificates(Certificates):
    LIES, SOME, BRINGS = ("lies in", "breaks"), ("empty", "holds some"), ("brings", "parts")

    def test_lots(self):
        seen = set()
        kinds = small_kinds(3)
        for at, lot in enumerate(random_lots(300, 1)):
            kind = kinds[at * 11 % len(kinds)]
            told = lot_lies_in(lot, kind)
            claim, paper = self.check(self.LIES, told, certify_lot, lot, kind)
            self.assertEqual((len(claim), paper == ()), (3, told))
            seen.add(told)
        self.both_sides(seen)

    def test_some(self):
        seen = set()
        for lot in random_lots(300, 2):
            told = is_empty(lot)
            claim, paper = self.check(self.SOME, told, certify_some, lot)
            self.assertEqual((len(claim), paper == ()), (2, told))
            seen.add(told)
        self.both_sides(seen)

    def test_bringing(self):
        seen = set()
        random = Random(3)
        for lot in random_lots(300, 3):
            square = pair(abs(number(random_fraction(random, 5))))
            told = brings(lot, square)
            claim, paper = self.check(self.BRINGS, told, certify_bringing, lot, square)
            self.assertEqual((len(claim), paper == ()), (3, told))
            seen.add(told)
        self.both_sides(seen)

    def test_just(self):
        # Pulled by 1 / 4 just holds; by a little more it does not.
        self.check(self.LIES, True, certify_lot, STRONG, pulled((1, 4)))
        self.check(self.LIES, False, certify_lot, STRONG, pulled(pair(Fraction(1, 4) + TINY)))
        self.check(self.LIES, True, certify_lot, EMPTY, CALM)
        self.check(self.LIES, True, certify_lot, (CALM,), CALM)
        self.check(self.LIES, False, certify_lot, (CALM,), bounded(pair(1 - TINY)))
        # Of c up to 4 just 4 is left, of b from 2 on just 2; then nothing.
        touching = ((0, 1, 4), (1, 0, -4))
        self.check(self.SOME, False, certify_some, touching)
        self.check(self.SOME, True, certify_some, (one_way(pair(2 + TINY)), (1, 0, -4)))
        for square, told in (((4, 1), True), (pair(4 - TINY), False), (pair(4 + TINY), True)):
            self.check(self.BRINGS, told, certify_bringing, STRONG, square)
            self.check(self.BRINGS, told, certify_bringing, touching, square)
        self.check(self.BRINGS, False, certify_bringing, UP, (BIG, 1))
        self.check(self.BRINGS, True, certify_bringing, EMPTY, NIL)
        self.check(self.BRINGS, False, certify_bringing, ((2, 0, -1),), pair(Fraction(1, 2) - TINY))
        self.check(self.BRINGS, True, certify_bringing, ((2, 0, -1),), HALF)

    def test_names(self):
        self.assertEqual(certify_lot(kind=(1, 2, 0), lot=STRONG), (("lies in", STRONG, (1, 2, 0)), ()))
        self.assertEqual(certify_some(lot=EMPTY), (("empty", EMPTY), ()))
        self.assertEqual(certify_bringing(square=(4, 1), lot=STRONG), (("brings", STRONG, (4, 1)), ()))


class BlendCertificates(Certificates):
    WORDS = ("blend within", "blend beyond")

    def test_blends(self):
        random = Random(4)
        seen = set()
        for at in range(400):
            first, second, disc = ((random_fraction(random, 3), pair(abs(number(random_fraction(random, 3)))))
                                   for _ in range(3))
            if at % 3 == 0:
                disc = (disc[0], (9, 1))
            mix = tuple(random_fraction(random, 2) for _ in range(3))
            told = blend_fits(first, second, mix, disc)
            claim, paper = self.check(self.WORDS, told, certify_blend, first, second, mix, disc)
            self.assertEqual((len(claim), paper == ()), (5, told))
            seen.add(told)
        self.both_sides(seen)

    def test_just(self):
        for parts_of_it, radius in (((HALF_DISC, HALF_DISC, CHAIN, (1, 3)), Fraction(2, 3)),
                                    ((NEAR, NEAR, MEAN, HALF), Fraction(1, 2)), ((NEAR, NEAR, CHAIN, NIL), Fraction(1)),
                                    (((ONE, NIL), (TWO, NIL), CHAIN, ONE), Fraction(1)),
                                    (((ONE, NIL), (TWO, NIL), CHAIN, TWO), Fraction(0))):
            *passed, centre = parts_of_it
            self.check(self.WORDS, True, certify_blend, *passed, (centre, pair(radius)))
            if radius:
                _, place = self.check(self.WORDS, False, certify_blend, *passed, (centre, pair(radius - TINY)))
                self.assertTrue(-1 <= number(place) <= 1)
        self.check(self.WORDS, False, certify_blend, HALF_DISC, HALF_DISC, CHAIN, FIFTHS)
        # The square of the least radius round 2 / 5 is 32 / 75.
        self.check(self.WORDS, True, certify_blend, HALF_DISC, HALF_DISC, CHAIN, ((2, 5), (327, 500)))
        self.check(self.WORDS, False, certify_blend, HALF_DISC, HALF_DISC, CHAIN, ((2, 5), (653, 1000)))
        self.assertEqual(certify_blend(disc=THIRDS, mix=CHAIN, second=HALF_DISC, first=HALF_DISC)[1], ())


class TableCertificates(Certificates):
    WORDS = ("table keeps", "table breaks")

    def test_tables(self):
        random = Random(5)
        kinds = small_kinds(3)
        seen = set()
        for _ in range(300):
            size = random.randint(1, 4)
            table = tuple(random_row(random, size, 2) for _ in range(size))
            kind = random.choice(kinds)
            told = keeps_kind(table, kind)
            claim, paper = self.check(self.WORDS, told, certify_table, table, kind)
            self.assertEqual((len(claim), paper == ()), (3, told))
            seen.add(told)
        self.both_sides(seen)

    def test_just(self):
        for often, told in ((1, True), (1 + TINY, False), (-1, True), (-1 - TINY, False), (1 - TINY, True)):
            table = (row(0, often), row(1, 0))
            self.check(self.WORDS, told, certify_table, table, CALM)
        self.check(self.WORDS, True, certify_table, TURN, (0, 1, 0))
        self.check(self.WORDS, False, certify_table, TURN, one_way(pair(TINY)))
        self.check(self.WORDS, True, certify_table, THIN, FIRM)
        self.assertEqual(certify_table(kind=FIRM, table=THIN), (("table keeps", THIN, FIRM), ()))


class MapCertificates(Certificates):
    MAPS, PLACES, RESTS = ("some map", "no map"), ("free", "settled"), ("rests", "may drift")

    def test_maps(self):
        random = Random(6)
        seen = set()
        for kind, data, _ in cases(CLOSED, 200, 7):
            other = random.choice(CLOSED)
            told = misfit(other, data)
            claim, paper = self.check(self.MAPS, told is None, certify_map, other, data)
            self.assertEqual((len(claim), paper), (3, () if told is None else told))
            seen.add(told is None)
            self.assertEqual(certify_map(kind, data), (("some map", kind, data), ()))
        self.both_sides(seen)

    def test_maps_that_just_are(self):
        self.check(self.MAPS, True, certify_map, CALM, ALONG)
        self.check(self.MAPS, False, certify_map, CALM, known((0, 1), (2, 3 + TINY)))
        self.check(self.MAPS, True, certify_map, CALM, known((0, 1), (0, 1)))
        self.check(self.MAPS, False, certify_map, CALM, known((0, 1), (0, 1 + TINY)))
        self.assertEqual(certify_map(data=ALONG, kind=HALVED), (("no map", HALVED, ALONG), (0, 1)))

    def test_places(self):
        seen = set()
        for kind, data, place in cases(CLOSED, 250, 8):
            value = settled(kind, data, place)
            claim, paper = self.check(self.PLACES, value is None, certify_place, kind, data, place)
            if value is None:
                self.assertEqual(len(claim), 4)
                one, other = paper
                self.assertNotEqual(one, other)
                for each in paper:
                    self.assertTrue(could_lead(kind, data, place, each))
            else:
                self.assertEqual(claim[4:], (value,))
                self.assertEqual(len(paper), len(data))
            seen.add(value is None)
        self.both_sides(seen)

    def test_places_that_just_are_settled(self):
        self.check(self.PLACES, False, certify_place, CALM, ALONG, row(1))
        nearly = known((0, 1), (2, 3 - TINY))
        self.check(self.PLACES, True, certify_place, CALM, nearly, row(1))
        self.assertGreater(number(room(CALM, nearly, row(1))), 0)
        self.check(self.PLACES, False, certify_place, CALM, nearly, row(2))
        self.check(self.PLACES, True, certify_place, CALM, nearly, row(2 + TINY))
        self.check(self.PLACES, False, certify_place, CALM, SPUN, row(0, 0))
        self.check(self.PLACES, True, certify_place, CALM, SPUN, row(2, 0))
        self.check(self.PLACES, True, certify_place, CALM, SPUN[:2], row(0, 0))
        self.assertEqual(certify_place(place=row(1), data=ALONG, kind=CALM),
                         (("settled", CALM, ALONG, row(1), row(2)), (HALF, HALF)))

    def test_a_free_place_between_balls_of_unlike_sizes(self):
        """The middle is noughts, the room 3, and one centre 100 away: only rows very near to the middle go."""
        data = known(((99, 9, 11), (-100, 0, 0)), ((-2, 0, 0), (1, 0, 0)))
        for sign in (1, -1):
            turned = tuple(tuple(moved_by(side, sign, 0) for side in each) for each in data)
            place = row(0, 0, 0)
            self.assertEqual((middle(CALM, turned, place), room(CALM, turned, place)), (place, (3, 1)))
            self.check(self.PLACES, True, certify_place, CALM, turned, place)

    def test_free_places_near_and_far(self):
        """Two values are found where there is little room, and where much."""
        for scale in (Fraction(1, BIG), Fraction(1, 7), Fraction(BIG, 3)):
            for kind, data, place in cases(CLOSED, 40, 9):
                moved = tuple(tuple(moved_by(side, scale, BIG) for side in each) for each in data)
                told = settled(kind, data, place)
                at = moved_by(place, scale, BIG)
                claim, _ = self.check(self.PLACES, told is None, certify_place, kind, moved, at)
                if told is not None:
                    self.assertEqual(claim[4], moved_by(told, scale, BIG))

    def test_rests(self):
        seen = set()
        tame = [kind for kind in CLOSED if kind[0] - 2 * kind[1] + kind[2] >= 0]
        even = [kind for kind in tame if kind[0] - 2 * kind[1] + kind[2] == 0]
        for kinds, count, seed in ((tame, 80, 10), (even, 250, 11)):
            for kind, data, _ in cases(kinds, count, seed):
                word = rest_word(kind, data)
                claim, paper = self.check(self.RESTS, word != "loose", certify_rest, kind, data)
                self.assertEqual(len(claim), 3)
                seen.add(word)
                if word != "loose":
                    self.assertEqual(paper, ())
                    continue
                inner, way = paper
                for often in (0, 1, BIG):
                    led = row(*[p + often * q for p, q in zip(parts(inner), parts(way))])
                    self.assertTrue(can_rest(kind, data, led))
        self.assertEqual(seen, {"loose", "sure", "settled", "single"})

    def test_rests_that_just_are(self):
        self.check(self.RESTS, True, certify_rest, CALM, APART)
        self.check(self.RESTS, False, certify_rest, CALM, ALONG)
        self.check(self.RESTS, True, certify_rest, CALM, known((0, 1), (1, TINY)))
        self.check(self.RESTS, True, certify_rest, CALM, known((0, 0)))
        self.check(self.RESTS, False, certify_rest, CALM, known((0, TINY)))
        self.check(self.RESTS, False, certify_rest, CALM, SPUN[:2])
        self.check(self.RESTS, True, certify_rest, CALM, SPUN[:3])
        self.check(self.RESTS, True, certify_rest, CALM, SPUN)
        self.check(self.RESTS, True, certify_rest, HALVED, known((0, 1)))
        self.check(self.RESTS, False, certify_rest, FAR, known((0, 1)))
        # Stripes: with rows within, ever thinner, and a line.
        for width, told in ((1, False), (TINY, False), (0, True)):
            stripe = known(((0, 0), (1, 0)), ((1 + width, 0), (width, 0)))
            self.check(self.RESTS, told, certify_rest, CALM, stripe)
            self.check(self.RESTS, told, certify_rest, CALM,
                       tuple(tuple(side + (NIL,) for side in each) for each in stripe))
        self.assertEqual(certify_rest(data=APART, kind=CALM), (("rests", CALM, APART), ()))

    def test_drifts_of_large_numbers(self):
        for kind, data, _ in cases([CALM, FIRM, FAR, (1, -3, -7)], 60, 12):
            moved = tuple(tuple(moved_by(side, Fraction(7, BIG), BIG) for side in each) for each in data)
            self.check(self.RESTS, rest_word(kind, data) != "loose", certify_rest, kind, moved)


class FunctionCertificates(Certificates):
    WORDS = ("function", "no function")

    def test_functions(self):
        seen = set()
        for span, points in point_cases(300, 13, 6, SPANS + WIDE_SPANS):
            told = ring(span, points)
            claim, paper = self.check(self.WORDS, told is None, certify_function, span, points)
            self.assertEqual(len(claim), 3)
            self.assertEqual(len(paper) if told is None else paper, len(points) if told is None else told)
            seen.add(told is None)
        self.both_sides(seen)

    def test_just(self):
        for span, points, told in (
                ((NIL, ONE), known_points((1, 1), (0, 0)), True),
                ((NIL, ONE), known_points((1, 1 + TINY), (0, 0)), False),
                (ENDLESS, known_points((1, 0), (0, 0)), True), (ENDLESS, known_points((1, -TINY), (0, 0)), False),
                (ENDLESS, QUARTER, False), (ENDLESS, QUARTER[:2], True), ((ONE, TWO), QUARTER[:1] * 6, True)):
            self.check(self.WORDS, told, certify_function, span, points)
        self.assertEqual(certify_function(points=QUARTER, span=ENDLESS)[0], ("no function", ENDLESS, QUARTER))


class DescentCertificates(Certificates):
    def test_descents(self):
        for size, step in ((ONE, ONE), (ONE, HALF), ((3, 7), (7, 3)), ((BIG, 7), (7, BIG)), ((1, BIG), ONE),
                           ((BIG, 1), (1, BIG + 1))):
            for count in range(5):
                claim, paper = certify_descent(size, step, count)
                share = descent_share(size, step, count)
                self.assertEqual(claim, ("rate", (NIL, size), descent(step, count), share))
                self.assertIs(claim[1][1], size)
                self.assertEqual(paper, descent_weights(count))
                self.assertIs(accepts(claim, paper), True)
                self.assertIs(shows_rate(*claim[1:], paper), True)
                lesser = (*claim[1:3], pair(number(share) * (1 - TINY)))
                self.assertIs(accepts(("rate", *lesser), paper), False)
                marks = descent_marks(size, step, count, TWO)
                self.assertIs(breaks_rate(*lesser, marks), True)
                self.assertIs(accepts(("no rate", *lesser), marks), True)
                self.assertIs(accepts(("no rate", *claim[1:]), marks), False)
        self.assertEqual(certify_descent(number=1, step=ONE, size=ONE)[0][3], (1, 6))


if __name__ == "__main__":
    unittest.main()
