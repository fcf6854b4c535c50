"""Point [34]: the claims of all twenty words, their papers, and what the checker does not accept."""

import unittest
from fractions import Fraction
from itertools import permutations, product
from random import Random

from bringnear.checker import accepts
from bringnear.data import bearing, middle
from bringnear.discs import blend_fits
from bringnear.kinds import gap_of, holds
from bringnear.lots import brings, is_empty, lot_lies_in
from bringnear.rates import descent, descent_marks, descent_share, descent_weights
from bringnear.tables import keeps_kind
from tests.claims import (
    ALONG, APART, BARRED, CHAIN, EMPTY, ENDLESS, FAST, FIFTHS, GOING, HALF_DISC, LITTLE, MEAN, NEAR, OPEN, PLAIN,
    PLAIN_WORDS, QUARTER, SIDE, SO, SPUN, STRONG, THIN, THIRDS, TURN, UP, WILD, WORDS, large_claims, other_things,
    part_at, places_of, with_part,
)
from tests.helpers import (
    ANYTHING, HALF, LESS, NIL, ONE, TWO, as_gap, nested, number, pair, random_fraction, random_lots, small_gaps,
    small_kinds,
)
from tests.known import BIG, CALM, FAR, FIRM, HALVED, cases, known, random_row, row
from tests.slopes import known_marks, known_points, with_values

TINY = Fraction(1, 10 ** 300)
PAPERS = [paper for _, paper, _ in SO]


class Claims(unittest.TestCase):
    def accepted(self, claim, paper):
        found = accepts(claim, paper)
        self.assertIs(type(found), bool)
        return found

    def check(self, wanted, claim, paper):
        self.assertIs(accepts(claim, paper), wanted, (claim, paper))

    def check_none(self, claim, papers):
        for paper in papers:
            self.check(False, claim, paper)


class AllWords(Claims):
    def test_each_word(self):
        self.assertEqual({claim[0] for claim, _, _ in SO}, set(WORDS))
        self.assertEqual({claim[0] for _, _, claim in SO}, set(WORDS))

    def test_what_is_so(self):
        for claim, paper, _ in SO:
            self.check(True, claim, paper)
            self.assertIs(accepts(paper=paper, claim=claim), True)

    def test_large_numbers(self):
        seen = set()
        for claim, paper in large_claims():
            self.check(True, claim, paper)
            self.check(False, (WORDS[WORDS.index(claim[0]) ^ 1], *claim[1:]), paper)
            seen.add(claim[0])
        self.assertGreater(len(seen), 4)

    def test_what_is_excluded(self):
        """No paper shows what a claim that is so excludes."""
        more = [*PAPERS, (), 0, None, NIL, (NIL,), (0, 1), (1, 0), (0, 1, 2), (2, 1, 0), (ONE,), (ONE, NIL),
                (HALF, HALF), *ANYTHING]
        for _, _, claim in SO:
            self.check_none(claim, more)

    def test_another_paper(self):
        """A claim with a paper is not accepted with (), one without a paper with nothing but ()."""
        for claim, paper, _ in SO:
            if claim[0] in PLAIN_WORDS:
                self.assertEqual(paper, ())
                self.check_none(claim, [other for other in PAPERS if other != ()])
                self.check_none(claim, [((),), [], None, False, 0, "", b"", {}, set(), range(0), (0,), "()"])
            else:
                self.assertNotEqual(paper, ())
                self.check_none(claim, [(), None, True, [], claim, (paper,), [*paper], (claim, paper)])
                for other in PAPERS:
                    self.accepted(claim, other)

    def test_a_part_more_or_less(self):
        for claim, paper, _ in SO:
            for part in (None, (), paper, claim[-1], claim[0], ONE, 0):
                self.check(False, (*claim, part), paper)
                self.check(False, (part, *claim), paper)
                self.check(False, (claim[0], part, *claim[1:]), paper)
            for at in range(len(claim)):
                self.check(False, claim[:at] + claim[at + 1:], paper)
            self.check(False, claim[:1], paper)
            self.check(False, (), paper)
            self.check(False, claim[0], paper)
            self.check(False, (claim,), paper)
            self.check(False, (claim, paper), paper)
            self.check(False, claim * 2, paper)
            if paper != ():
                for part in (None, (), ONE, 0, paper[-1]):
                    self.check(False, claim, (*paper, part))
                    self.check(False, claim, (part, *paper))
                for at in range(len(paper)):
                    self.check(False, claim, paper[:at] + paper[at + 1:])

    def test_exchanged(self):
        for claim, paper, _ in SO:
            self.check(False, paper, claim)
            self.check(False, claim, claim)
            if len(claim) > 2:
                self.check(False, (claim[0], *claim[:0:-1]), paper)
                self.check(False, claim[::-1], paper)
                self.check(False, (*claim[1:], claim[0]), paper)

    def test_other_words(self):
        """Only of the data, kinds and papers of one claim another one may be so: some map and rests."""
        for claim, paper, _ in SO:
            for word in WORDS:
                if word != claim[0]:
                    found = self.accepted((word, *claim[1:]), paper)
                    self.assertTrue(not found or {word, claim[0]} == {"some map", "rests"}, (word, claim))
            for word in ("", "lies", "lies  in", "Lies in", "map", "known", None, 0, True, (), (claim[0],), b"empty",
                         [claim[0]], {}, object(), claim[0] + "\0", "accepts", "is so"):
                self.check(False, (word, *claim[1:]), paper)

    def test_other_things_in_the_place_of_each_part(self):
        for claim, paper, _ in SO:
            for way in places_of(claim):
                for thing in other_things(part_at(claim, way)):
                    self.check(False, with_part(claim, way, thing), paper)
            if paper != ():
                for way in places_of(paper):
                    for thing in other_things(part_at(paper, way)):
                        self.check(False, claim, with_part(paper, way, thing))

    def test_parts_in_place_of_others(self):
        """Whatever stands in the place of a part: True or False is answered, and nothing is raised."""
        count = 0
        for claim, paper, _ in SO[::3]:
            for way in places_of(claim):
                part = part_at(claim, way)
                things = [paper, claim, (), 2, -1, BIG, (part, part), part * 2 if isinstance(part, tuple) else 3]
                things += [part[1:], part[:-1], part[::-1]] if isinstance(part, tuple) else []
                for thing in things:
                    count += self.accepted(with_part(claim, way, thing), paper)
            for way in places_of(paper):
                part = part_at(paper, way)
                things = [paper, claim, (), 2, -1, -BIG, 0, (part, part)]
                things += [part * 2, part[1:], part[:-1], part[::-1]] if isinstance(part, tuple) else [-part, part + 1]
                for thing in things:
                    self.accepted(claim, with_part(paper, way, thing))
        self.assertGreater(count, 5)

    def test_whatever_they_are(self):
        things = [*ANYTHING, nested(14), "lies in", ("lies in",), ("empty", EMPTY), ("empty",), STRONG,
                  (EMPTY, "empty"), accepts, unittest, (accepts,), {"empty": EMPTY}, frozenset(), complex(1, 1),
                  bytearray(b"empty")]
        for one in things:
            for other in things:
                if one != ("empty", EMPTY) or other != ():
                    self.check(False, one, other)
        self.check(True, ("empty", EMPTY), ())
        for word in WORDS:
            for one in things:
                for many in range(5):
                    self.check(False, (word, *[one] * many), ())
                    self.check(False, (word, *[one] * many), one)

    def test_nothing_is_changed(self):
        claim, paper = ["empty", [EMPTY]], [[1], {2: [3]}]
        before = repr((claim, paper))
        self.check(False, claim, paper)
        self.check(False, ("empty", claim), paper)
        self.assertEqual(repr((claim, paper)), before)


class Lots(Claims):
    def test_bounds(self):
        tried = (("lies in", (CALM,), ()), ("brings", (ONE,), ()), ("holds some", (), (ONE, NIL, NIL)),
                 ("parts", (NIL,), (ONE, NIL, ONE)), ("breaks", (FIRM,), (ONE, NIL, ONE)))
        for word, parts, paper in tried:
            for many in (1, 2, 3, 4):
                self.check(True, (word, (CALM,) * many, *parts), paper)
            for lot in ((), (CALM,) * 5, (CALM,) * 60, CALM, [CALM], (CALM, (2, 0, -2)), (CALM, (1, 1, 1))):
                self.check(False, (word, lot, *parts), paper)
        self.check(False, ("empty", EMPTY * 3), ())
        self.check(False, ("lies in", (CALM,), (2, 0, -2)), ())
        self.check(False, ("lies in", (CALM,), (1, 0, 1)), ())
        for square in (LESS, (2, 2), 1, None, (-1, BIG)):
            self.check(False, ("brings", (CALM,), square), ())
            self.check(False, ("parts", (CALM,), square), (ONE, NIL, ONE))

    def test_gaps_at_the_line(self):
        # Just held by the lot, and just not by the kind.
        self.check(True, ("breaks", STRONG, (1, 0, -1)), (ONE, ONE, (4, 1)))
        self.check(False, ("breaks", STRONG, (1, 0, -1)), (ONE, ONE, pair(4 + TINY)))
        self.check(False, ("breaks", STRONG, (1, 0, -1)), (ONE, pair(1 - TINY), (4, 1)))
        self.check(False, ("breaks", STRONG, (1, 0, -1)), (ONE, ONE, ONE))
        self.check(True, ("breaks", STRONG, (1, 0, -1)), (ONE, ONE, pair(1 + TINY)))
        self.check(False, ("parts", STRONG, (3, 1)), (ONE, ONE, (3, 1)))
        self.check(True, ("parts", STRONG, (3, 1)), (ONE, ONE, pair(3 + TINY)))
        self.check(False, ("parts", STRONG, (3, 1)), (ONE, ONE, pair(4 + TINY)))
        self.check(True, ("holds some", STRONG), ((BIG, 1), (BIG, 1), (BIG, 1)))
        self.check_none(("holds some", STRONG), [(NIL, NIL, NIL), (ONE, TWO, ONE), (LESS, LESS, LESS), (NIL, NIL, ONE),
                                                 (ONE, HALF, ONE), (1, 1, 1), (ONE, ONE)])

    def test_no_paper_for_what_is_not_so(self):
        gaps = [as_gap(gap) for gap in small_gaps(3)]
        kinds = small_kinds(2)
        seen = set()
        for at, lot in enumerate(random_lots(60, 1, 2)):
            kind = kinds[at * 7 % len(kinds)]
            square = pair(Fraction(at % 5, 2))
            for words, parts, told in ((("lies in", "breaks"), (lot, kind), lot_lies_in(lot, kind)),
                                       (("empty", "holds some"), (lot,), is_empty(lot)),
                                       (("brings", "parts"), (lot, square), brings(lot, square))):
                self.check(told, (words[0], *parts), ())
                shown = any(self.accepted((words[1], *parts), gap) for gap in gaps)
                self.assertFalse(told and shown)
                seen.add((words[0], told, shown))
        self.assertGreaterEqual(len(seen), 6)


class Blends(Claims):
    def test_places(self):
        beyond = ("blend beyond", HALF_DISC, HALF_DISC, CHAIN, FIFTHS)
        self.check(True, beyond, (1, 3))
        # At 1 and at - 1 the sum of the roots is 3 / 5 at most.
        self.check_none(beyond, [ONE, LESS, NIL[::-1], (4, 3), (-4, 3), (2, 6), 0, (1, 3, 1)])
        wide = ("blend beyond", NEAR, NEAR, CHAIN, (NIL, HALF))
        for place in (ONE, LESS, NIL, HALF):
            self.check(True, wide, place)
        for place in (pair(1 + TINY), pair(-1 - TINY), TWO, (BIG, 1), (-BIG, 1)):
            self.check(False, wide, place)
        self.check(False, ("blend beyond", NEAR, NEAR, CHAIN, NEAR), NIL)
        self.check(True, ("blend beyond", NEAR, NEAR, CHAIN, (NIL, pair(1 - TINY))), NIL)
        self.check(False, ("blend beyond", NEAR, NEAR, CHAIN, (NIL, LESS)), NIL)

    def test_parts(self):
        self.check(True, ("blend within", NEAR, NEAR, CHAIN, NEAR), ())
        for parts in ((NEAR, NEAR, CHAIN, (NIL, LESS)), ((NIL, LESS), NEAR, CHAIN, NEAR),
                      (NEAR, (NIL, LESS), CHAIN, NEAR), (NEAR, NEAR, CHAIN[:2], NEAR),
                      (NEAR, NEAR, (*CHAIN, ONE), NEAR), (NEAR, NEAR, NEAR, NEAR),
                      (NEAR, NEAR, (NIL, NIL, (2, 2)), NEAR), (NEAR, NEAR, (0, 0, 1), NEAR)):
            self.check(False, ("blend within", *parts), ())
            self.check_none(("blend beyond", *parts), [NIL, ONE, ()])

    def test_no_paper_for_what_is_not_so(self):
        random = Random(2)
        places = [pair(Fraction(at, 12)) for at in range(-12, 13)]
        seen = set()
        for _ in range(150):
            first, second, disc = ((random_fraction(random, 2), pair(abs(number(random_fraction(random, 2)))))
                                   for _ in range(3))
            if random.random() < 0.3:
                disc = (disc[0], (4, 1))
            mix = tuple(random_fraction(random, 2) for _ in range(3))
            told = blend_fits(first, second, mix, disc)
            self.check(told, ("blend within", first, second, mix, disc), ())
            shown = any(self.accepted(("blend beyond", first, second, mix, disc), place) for place in places)
            self.assertFalse(told and shown)
            seen.add((told, shown))
        self.assertTrue({(True, False), (False, True)} <= seen)


class Tables(Claims):
    def test_rows(self):
        self.check(True, ("table breaks", TURN, FIRM), (ONE, NIL))
        self.check_none(("table breaks", TURN, FIRM), [(NIL, NIL), (ONE,), (ONE, NIL, NIL), (1, 0), (ONE, (2, 2))])
        long = ((NIL, (5, 1)), (NIL, NIL))
        self.check(True, ("table breaks", long, CALM), (NIL, ONE))
        self.check(False, ("table breaks", long, CALM), (ONE, NIL))
        # The form of x x - y y, just 0 at (1, 1).
        self.check(False, ("table breaks", ((TWO, NIL), (NIL, NIL)), (1, 0, -3)), (ONE, ONE))
        wide = ((pair(Fraction(3, 2)), NIL), (NIL, HALF))
        self.check(False, ("table breaks", wide, (4, 0, -5)), (ONE, ONE))
        self.check(True, ("table breaks", wide, (4, 0, -5)), (pair(1 + TINY), ONE))
        self.check(False, ("table breaks", wide, (4, 0, -5)), (pair(1 - TINY), ONE))

    def test_sizes(self):
        for size in (1, 2, 3, 4):
            table = tuple(tuple(TWO if at == by else NIL for by in range(size)) for at in range(size))
            self.check(True, ("table breaks", table, CALM), (ONE,) * size)
            self.check(True, ("table keeps", table, (1, 0, -4)), ())
            for other in (1, 2, 3, 4, 5):
                self.check(other == size, ("table breaks", table, CALM), (ONE,) * other)
        table = tuple(tuple(TWO if at == by else NIL for by in range(5)) for at in range(5))
        self.check(False, ("table breaks", table, CALM), (ONE,) * 5)
        self.check(False, ("table keeps", table, (1, 0, -4)), ())
        self.check(False, ("table keeps", (), CALM), ())
        self.check(False, ("table breaks", (), CALM), ())

    def test_no_paper_for_what_is_not_so(self):
        random = Random(3)
        kinds = small_kinds(2)
        seen = set()
        for _ in range(150):
            size = random.randint(1, 3)
            table = tuple(tuple(pair(Fraction(random.randint(-2, 2), 2)) for _ in range(size)) for _ in range(size))
            kind = random.choice(kinds)
            told = keeps_kind(table, kind)
            self.check(told, ("table keeps", table, kind), ())
            rows = product([LESS, NIL, ONE], repeat=size)
            shown = any(self.accepted(("table breaks", table, kind), each) for each in rows)
            self.assertFalse(told and shown)
            seen.add((told, shown))
        self.assertTrue({(True, False), (False, True)} <= seen)


class Maps(Claims):
    def test_closed_kinds_and_bounds(self):
        for kind in (SIDE, OPEN, (-1, 2, -2)):
            for data in (APART, FAST, known((0, 0))):
                self.check(False, ("some map", kind, data), ())
                self.check_none(("no map", kind, data), list(product(range(3), repeat=2)))
                self.check_none(("settled", kind, data, data[0][0], data[0][1]), [(ONE, *[NIL] * (len(data) - 1))])
                self.check_none(("free", kind, data, row(7)), [(row(0), row(1)), (row(7), row(8))])
                self.check(False, ("rests", kind, data), ())
                self.check_none(("may drift", kind, data), [(row(3), row(1))])
        self.check(True, ("some map", CALM, ALONG * 3), ())
        self.check(False, ("some map", CALM, ALONG * 3 + ALONG[:1]), ())
        self.check(False, ("some map", CALM, ()), ())
        self.check(False, ("no map", CALM, (*FAST * 2, FAST[0])), (0, 2))
        self.check(True, ("no map", CALM, FAST * 2), (0, 2))
        self.check(False, ("some map", CALM, known(((0,) * 4, (0,) * 4))), ())
        self.check(False, ("some map", CALM, (ALONG[0], SPUN[0])), ())

    def test_pairs_that_do_not_fit(self):
        for first, second in product(range(-3, 5), repeat=2):
            wanted = {first, second} in ({0, 2}, {1, 2})
            self.check(wanted, ("no map", CALM, FAST), (first, second))
        self.check_none(("no map", CALM, FAST), [
            (0,), (0, 2, 2), (0, 2, 1), [0, 2], (False, 2), (0, True), (2, None), 2, ((0, 1), (2, 1)), ((0, 2),),
            (BIG, 0)])
        self.check(False, ("no map", CALM, known((0, 0), (0, 0))), (0, 1))
        self.check(True, ("no map", CALM, known((0, 0), (0, TINY))), (1, 0))

    def test_what_fits(self):
        """What settled, free, rests and may drift are told of: data of which each two fit."""
        for data in (FAST, known((0, 1), (0, 2)), (*ALONG, *known((3, 4 + TINY)))):
            place = data[0][0]
            weights = (ONE, *[NIL] * (len(data) - 1))
            self.check(False, ("settled", CALM, data, place, data[0][1]), weights)
            self.check(True, ("settled", CALM, data[:1], place, data[0][1]), (ONE,))
            self.check_none(("free", CALM, data, row(1)), [(row(1), row(2)), (row(2), row(3))])
            self.check(False, ("rests", CALM, data), ())
            self.check_none(("may drift", CALM, data), [(row(30), row(1)), (row(-30), row(-1))])


class Settled(Claims):
    def test_weights(self):
        claim = ("settled", CALM, ALONG, row(1), row(2))
        self.check(True, claim, (HALF, HALF))
        self.check_none(claim, [
            (HALF,), (HALF, HALF, NIL), (ONE, NIL), (NIL, ONE), (ONE, ONE), (NIL, NIL), ((3, 2), (-1, 2)),
            (HALF, (1, 3)), (pair(Fraction(1, 2) + TINY), pair(Fraction(1, 2) - TINY)), ((2, 4), HALF), [HALF, HALF],
            ((1, 4), (1, 4)), (HALF, HALF, NIL, NIL), (1, 1), (ONE, LESS)])
        self.check(False, ("settled", CALM, ALONG, row(1), row(2 + TINY)), (HALF, HALF))
        self.check(False, ("settled", CALM, ALONG, row(1 + TINY), row(2)), (HALF, HALF))
        self.check(True, ("settled", CALM, ALONG, row(Fraction(1, 2)), row(Fraction(3, 2))), ((3, 4), (1, 4)))

    def test_negative_weights(self):
        """With a number below 0 the sums can be right and yet nothing is settled."""
        data = known((0, 0), (1, 0))
        self.check(True, ("free", CALM, data, row(2)), (row(1), row(-1)))
        # Both centres are 0, the squares of the radii 4 and 1: - 1 / 3 and 4 / 3 make their sum 0.
        self.check(False, ("settled", CALM, data, row(2), row(0)), ((-1, 3), (4, 3)))
        self.check(False, ("settled", CALM, data[::-1], row(2), row(0)), ((4, 3), (-1, 3)))

    def test_the_sum_of_squares(self):
        # Weights that bear the middle, but the place is not settled.
        for data, place in ((APART, row(1)), (known((0, 0)), row(1)), (known((0, 0), (4, 0)), row(2))):
            value, weights = middle(CALM, data, place), bearing(CALM, data, place)
            self.check(False, ("settled", CALM, data, place, value), weights)

    def test_rows(self):
        weights = (HALF, NIL, HALF, NIL)
        self.check(True, ("settled", CALM, SPUN, row(0, 0), row(0, 0)), weights)
        for place, value in ((row(0), row(0, 0)), (row(0, 0), row(0)), (row(0), row(0)), (row(0, 0, 0), row(0, 0, 0)),
                             (row(0, 0), [NIL, NIL]), ((0, 0), row(0, 0)), ((), ()), (row(0, 0), ((0, 2), NIL))):
            self.check(False, ("settled", CALM, SPUN, place, value), weights)
            self.check_none(("free", CALM, SPUN[:2], place), [(row(0, 0), value), (value, place)])

    def test_no_paper_for_what_is_not_so(self):
        random = Random(4)
        seen = set()
        closed = [kind for kind in small_kinds(2) if kind[0] > 0]
        for kind, data, place in cases(closed, 120, 5):
            value, weights = middle(kind, data, place), bearing(kind, data, place)
            told = self.accepted(("settled", kind, data, place, value), weights)
            around = [value, *(pair_of[1] for pair_of in data), random_row(random, len(place))]
            pairs = [(one, other) for one in around for other in around]
            shown = any(self.accepted(("free", kind, data, place), rows) for rows in pairs)
            self.assertFalse(told and shown)
            for other in around[1:]:
                if other != value:
                    self.check(False, ("settled", kind, data, place, other), weights)
                    for at in range(len(data)):
                        only = tuple(ONE if by == at else NIL for by in range(len(data)))
                        self.assertFalse(told and self.accepted(("settled", kind, data, place, other), only))
            seen.add((told, shown))
        self.assertTrue({(True, False), (False, True)} <= seen)


class Free(Claims):
    def test_rows(self):
        claim = ("free", CALM, APART, row(1))
        for one, other, wanted in ((2, 0, True), (0, 2, True), (1, 1 + TINY, True), (1, 1, False), (2 + TINY, 0, False),
                                   (2, -TINY, False), (0, 0, False), (3, 4, False)):
            self.check(wanted, claim, (row(one), row(other)))
        self.check_none(claim, [(row(1), row(2), row(0)), (row(1),), [row(1), row(2)], (ONE, TWO), (row(1), row(1, 2)),
                                (row(1, 2), row(1, 1)), (row(1), [TWO]), row(1), ((1,), (2,)), (row(1), ((2, 2),))])
        self.check(False, ("free", CALM, ALONG, row(1)), (row(2), row(2 + TINY)))


class Rests(Claims):
    def test_rest_numbers(self):
        self.check(True, ("rests", HALVED, known((0, 1))), ())
        self.check(True, ("rests", CALM, known((0, 0))), ())
        self.check(False, ("rests", CALM, known((0, 1))), ())
        self.check(True, ("may drift", CALM, known((0, 1))), (row(1), row(1)))
        # Below 0 neither is a claim, above 0 the second one is none.
        for kind in (WILD, (1, 0, -4), (1, 5, 3)):
            for data in (known((0, 0)), known((0, 1)), known((1, 2))):
                self.check(False, ("rests", kind, data), ())
                self.check_none(("may drift", kind, data),
                                [(row(p), row(q)) for p in (-9, 0, 1, 9) for q in (1, -1)])
        for p, q in product((-9, 0, 1, 2, 9), (-1, 1)):
            self.check(False, ("may drift", HALVED, known((0, 1))), (row(p), row(q)))

    def test_inner_rows_and_ways(self):
        claim = ("may drift", CALM, ALONG)
        tried = ((3, 1, True), (Fraction(5, 2) + TINY, TINY, True), (Fraction(5, 2), 1, False), (2, 1, False),
                 (3, 0, False), (3, -1, False), (BIG, BIG, True), (-3, -1, False), (3, -TINY, False))
        for inner, way, wanted in tried:
            self.check(wanted, claim, (row(inner), row(way)))
        self.check_none(claim, [(row(3),), (row(3), row(1), row(1)), [row(3), row(1)], (row(3, 3), row(1, 1)), (3, 1),
                                (row(3), [ONE]), (row(3), ((2, 2),)), row(3, 1)])
        # A stripe: along it, not across it.
        stripe = known(((0, 0), (1, 0)), ((4, 0), (3, 0)))
        claim = ("may drift", CALM, stripe)
        for inner, way, wanted in (((2, 0), (0, 1), True), ((2, 7), (0, -5), True), ((2, 0), (TINY, 1), False),
                                   ((2, 0), (-TINY, 1), False), ((Fraction(1, 2), 0), (0, 1), False),
                                   ((2, 0), (0, 0), False), ((Fraction(7, 2), 0), (0, 1), False),
                                   ((4, 0), (0, 1), False)):
            self.check(wanted, claim, (row(*inner), row(*way)))
        # A pair that is a rest leaves no inner row.
        rest = known(((0, 0), (1, 0)), ((9, 9), (9, 9)))
        self.check_none(("may drift", CALM, rest), [(row(*p), row(*q)) for p in ((9, 9), (9, 8), (2, 0), (99, 9))
                                                    for q in ((0, 1), (1, 0), (0, -1), (1, 1))])
        self.check(True, ("rests", CALM, rest), ())
        # With the centre above 1 the half spaces lie the other way.
        claim = ("may drift", FAR, known((0, 1)))
        for inner, way, wanted in ((-1, -1, True), (Fraction(-1, 2), -1, False), (-Fraction(1, 2) - TINY, -1, True),
                                   (-1, 1, False), (1, 1, False), (2, 1, False), (2, -1, False)):
            self.check(wanted, claim, (row(inner), row(way)))

    def test_no_paper_for_what_is_not_so(self):
        seen = set()
        closed = [kind for kind in small_kinds(3) if kind[0] > 0 and kind[0] - 2 * kind[1] + kind[2] == 0]
        for kind, data, place in cases(closed, 120, 6):
            many = len(place)
            rows = [row(*each) for each in product((-20, -1, 0, 3, 20), repeat=many)][::1 if many < 3 else 5]
            ways = [row(*each) for each in product((-1, 0, 1), repeat=many)]
            told = self.accepted(("rests", kind, data), ())
            shown = any(self.accepted(("may drift", kind, data), (inner, way)) for inner in rows for way in ways)
            self.assertFalse(told and shown)
            seen.add((told, shown))
        self.assertTrue({(True, False), (False, True)} <= seen)


class Functions(Claims):
    def test_values(self):
        claim = ("function", PLAIN, GOING[:2])
        for low, more, wanted in ((0, 0, True), (BIG, 0, True), (0, TINY, False), (0, -TINY, False), (1, -1, False)):
            self.check(wanted, claim, row(low + more + Fraction(1, 2), low))
        self.check_none(claim, [
            row(Fraction(1, 2)), row(Fraction(1, 2), 0, 0), (1, 0), (HALF, 0), [HALF, NIL], (HALF, (0, 2))])
        self.check(True, ("function", ENDLESS, GOING[:2]), row(1, 0))
        self.check(False, ("function", ENDLESS, GOING[:2]), row(1 + TINY, 0))
        for span in ((ONE, ONE), (LESS, None), (ONE, HALF), (None, ONE), ONE, (NIL,), (NIL, ONE, ONE)):
            self.check(False, ("function", span, GOING[:1]), row(0))
            self.check(False, ("no function", span, BARRED), (0, 1))
        for points in ((), GOING * 3, (*GOING, QUARTER[0]), known_marks((0, 0, 0)), [GOING[0]], (GOING[0], (ONE, ONE))):
            for many in range(8):
                self.check(False, ("function", ENDLESS, points), (NIL,) * many)
        self.check(True, ("function", ENDLESS, GOING[:1] * 6), (ONE,) * 6)
        self.check(False, ("function", ENDLESS, GOING[:1] * 7), (ONE,) * 7)
        self.check(False, ("function", ENDLESS, known_points(((0,) * 4, (0,) * 4))), (ONE,))

    def test_rings(self):
        claim = ("no function", ENDLESS, QUARTER)
        for size in range(5):
            for indexes in product(range(-1, 4), repeat=size):
                wanted = indexes in ((2, 1, 0), (1, 0, 2), (0, 2, 1))
                self.check(wanted, claim, indexes)
        self.check_none(claim, [
            [2, 1, 0], (2, True, 0), (2, 1, False), (2, 1, None), (TWO, ONE, NIL), (2, 1, 0, 2, 1, 0), 3])
        # Sums of just 0, and hardly above it.
        self.check(False, ("no function", ENDLESS, known_points((1, 1), (0, 1))), (0, 1))
        self.check(True, ("no function", ENDLESS, known_points((1, 1 - TINY), (0, 1))), (0, 1))
        self.check(True, ("no function", ENDLESS, known_points((1, 1 - TINY), (0, 1))), (1, 0))
        self.check(False, ("no function", PLAIN, known_points((1, 1), (0, 0))), (0, 1))
        self.check(True, ("no function", PLAIN, known_points((1, 1 + TINY), (0, 0))), (0, 1))
        self.check(False, ("no function", ENDLESS, BARRED * 4), (0, 1))

    def test_no_paper_for_what_is_not_so(self):
        values = [row(*each) for each in product((0, Fraction(1, 2), 1, 2), repeat=3)]
        rings = [way for size in (2, 3) for way in permutations(range(3), size)]
        grid = [row(*each) for each in product((0, 1), repeat=2)]
        seen = set()
        random = Random(7)
        for _ in range(200):
            points = tuple((random.choice(grid), random.choice(grid)) for _ in range(3))
            span = random.choice((ENDLESS, PLAIN, (NIL, TWO), (HALF, None)))
            shown = any(self.accepted(("function", span, points), each) for each in values)
            barred = any(self.accepted(("no function", span, points), ring) for ring in rings)
            self.assertFalse(shown and barred)
            seen.add((shown, barred))
        self.assertTrue({(True, False), (False, True)} <= seen)


class Rates(Claims):
    def test_parts(self):
        for span in ((NIL, None), (ONE, ONE), (TWO, ONE), NIL, (NIL, ONE, ONE), (LESS, ONE)):
            self.check(False, ("rate", span, (), (BIG, 1)), ((1, 0, ONE),))
            self.check(False, ("no rate", span, (), NIL), known_marks((1, 1, Fraction(1, 2)), (0, 0, 0)))
        for method in (((ONE, ONE),), ((),), [(ONE,)], (ONE,), None, 0):
            self.check(False, ("rate", PLAIN, method, (BIG, 1)), descent_weights(1))
            self.check(False, ("no rate", PLAIN, method, NIL), descent_marks(ONE, ONE, 1, ONE))
        for share in (LESS, (2, 2), 1, None, (-1, BIG)):
            self.check(False, ("rate", PLAIN, (), share), ((1, 0, ONE),))
            self.check(False, ("no rate", PLAIN, (), share), known_marks((1, 1, Fraction(1, 2)), (0, 0, 0)))
        five = tuple((NIL,) * (at + 1) for at in range(5))
        self.check(True, ("rate", PLAIN, five[:4], HALF), ((5, 4, ONE),))
        self.check(False, ("rate", PLAIN, five, HALF), ((6, 5, ONE),))
        self.check(False, ("no rate", PLAIN, five, NIL), known_marks(*[(1, 1, Fraction(1, 2))] * 6, (0, 0, 0)))
        self.check(True, ("no rate", PLAIN, five[:4], NIL), known_marks(*[(1, 1, Fraction(1, 2))] * 5, (0, 0, 0)))

    def test_weights(self):
        claim = ("rate", PLAIN, descent(ONE, 1), (1, 6))
        weights = descent_weights(1)
        self.check(True, claim, weights)
        self.check(True, ("rate", PLAIN, descent(ONE, 1), ONE), weights)
        self.check_none(("rate", PLAIN, descent(ONE, 1), LITTLE), [weights])
        self.check_none(claim, [
            weights[::-1], weights[:2], weights[1:], (*weights, weights[2]), weights * 2, list(weights),
            (weights[1], weights[0], weights[2]), ((0, 1, TWO), *weights[1:]), descent_weights(0), descent_weights(2),
            (*weights, (2, 2, ONE)), (*weights, (2, 3, ONE)), ((0, 1, (1, 4)), (0, 1, (1, 4)), *weights[1:]),
            ((0, 2, NIL), *weights[1:]), (weights[0], (1, 2, NIL), *weights[1:]), ((False, 1, HALF), *weights[1:]), ()])
        # Balanced, but its form falls; nowhere below 0, but not balanced.
        self.check(False, ("rate", PLAIN, descent(ONE, 1), HALF), ((2, 1, ONE),))
        self.check(False, ("rate", PLAIN, descent(ONE, 1), HALF), ((0, 2, ONE),))

    def test_runs(self):
        method, marks = descent(ONE, 1), descent_marks(ONE, ONE, 1, (3, 1))
        self.check(True, ("no rate", PLAIN, method, LITTLE), marks)
        self.check(False, ("no rate", PLAIN, method, (1, 6)), marks)
        self.check(False, ("no rate", PLAIN, descent(HALF, 1), LITTLE), marks)
        self.check(False, ("no rate", (NIL, HALF), method, LITTLE), marks)
        x, g, value = marks[0]
        for changed in ((row(3 + TINY), g, value), (x, row(1 + TINY), value), (x, g, pair(number(value) - TINY)),
                        (x, g, None), (x, g), [x, g, value]):
            self.check(False, ("no rate", PLAIN, method, LITTLE), (changed, *marks[1:]))
        self.check_none(("no rate", PLAIN, method, LITTLE), [
            marks[:2], marks[1:], (*marks, marks[2]), marks * 3, list(marks), marks[::-1], (*marks[:2], marks[1]), ()])
        self.check(False, ("no rate", PLAIN, method, LITTLE), (*marks[:2], (row(0), row(TINY), NIL)))

    def test_no_paper_for_what_is_not_so(self):
        weights = [descent_weights(count) for count in range(5)]
        for count in range(5):
            for step in (ONE, HALF, (1, BIG)):
                method, share = descent(step, count), descent_share(ONE, step, count)
                marks = descent_marks(ONE, step, count, ONE)
                for often in (Fraction(1, 2), 1 - TINY, 1, 1 + TINY, 2):
                    told = pair(often * number(share))
                    self.check(often >= 1, ("rate", PLAIN, method, told), weights[count])
                    self.check(often < 1, ("no rate", PLAIN, method, told), marks)
                    for each in weights[:count] + weights[count + 1:]:
                        self.check(False, ("rate", PLAIN, method, told), each)


class AgainstGaps(Claims):
    def test_two_places(self):
        """Two pairs do not fit exactly if the kind does not hold their gap."""
        random = Random(8)
        closed = [kind for kind in small_kinds(2) if kind[0] > 0]
        seen = set()
        for _ in range(200):
            many = random.randint(1, 3)
            data = tuple((random_row(random, many, 1), random_row(random, many, 1)) for _ in range(2))
            kind = random.choice(closed)
            fits = data[0] == data[1] or holds(kind, gap_of(*data[0], *data[1]))
            self.check(fits, ("some map", kind, data), ())
            self.check(not fits, ("no map", kind, data), (0, 1))
            self.check(not fits, ("no map", kind, data), (1, 0))
            seen.add(fits)
        self.assertEqual(len(seen), 2)

    def test_values_with_marks(self):
        self.assertEqual(len(with_values(GOING, (1, 2, 3))), 3)
        for paper in (row(1, 2, 3), row(0, 0, 0)):
            self.check(False, ("function", PLAIN, GOING), paper)
        self.check(False, ("table keeps", THIN, (4, 3, 1)), ())
        self.check(False, ("blend within", HALF_DISC, HALF_DISC, MEAN, (NIL, (2, 5))), ())
        self.check(False, ("lies in", UP, CALM), ())
        self.check(True, ("blend within", *(HALF_DISC,) * 2, CHAIN, THIRDS), ())


if __name__ == "__main__":
    unittest.main()
