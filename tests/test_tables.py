"""Points [20] to [22]: tables, which kinds they keep, led tables, blends, widths, rests and runs."""

import unittest
from fractions import Fraction
from itertools import combinations, permutations
from random import Random

from bringnear.discs import blend_fits, kind_of_disc
from bringnear.errors import InvalidRow, InvalidTable
from bringnear.kinds import averaged, bounded, disc_kind, gap_of, holds, one_way, pulled
from bringnear.leads import BACK, led, reflection_lead, resolvent_lead, step_lead
from bringnear.tables import (
    blend_table, breaking_row, is_table, keeps_kind, led_table, rest_of_table, run_of_table, turn_for, turn_table,
    width_square_near,
)
from tests.helpers import (
    HALF, LESS, NIL, ONE, TWO, as_gap, number, pair, random_fraction, random_lead, small_gaps, small_kinds, value_at,
)

BIG = 10 ** 399 + 9
CALM, UP, FIRM, FAR = (1, 0, -1), (0, 1, 0), (2, 1, 0), (1, 2, 3)
TURN, THIN = turn_table(NIL, ONE), ((HALF, NIL), (NIL, NIL))
NEAR, CHAIN, MEAN = (NIL, ONE), (NIL, NIL, ONE), (HALF, NIL, HALF)
# Just beyond 1.
BEYOND = (10 ** 300 + 1, 10 ** 300)


def table(*rows):
    return tuple(tuple(pair(part) for part in row) for row in rows)


def numbers(value):
    return [[number(part) for part in row] for row in value]


def along(*parts):
    """The table with these parts along it and 0 beside."""
    return table(*([part if at == by else 0 for by in range(len(parts))] for at, part in enumerate(parts)))


def random_table(random, size, most=3):
    return tuple(tuple(random_fraction(random, most) for _ in range(size)) for _ in range(size))


def random_row(random, size, most=4):
    return tuple(random_fraction(random, most) for _ in range(size))


def product(left, right):
    return [[sum(a * b for a, b in zip(row, column)) for column in zip(*right)] for row in left]


def image(value, row):
    return tuple(pair(sum(number(a) * number(b) for a, b in zip(part, row))) for part in value)


def shifted(plain, factor, value):
    """The factor times the table, and the plain number along it."""
    return [[factor * part + (plain if at == by else 0) for by, part in enumerate(row)]
            for at, row in enumerate(numbers(value))]


def determinant(rows):
    """By the words: over all orders of the places."""
    total = Fraction(0)
    for order in permutations(range(len(rows))):
        part = Fraction(-1) ** sum(order[j] > order[k] for k in range(len(rows)) for j in range(k))
        for at, by in enumerate(order):
            part *= rows[at][by]
        total += part
    return total


def form_of(value, kind):
    """The form of [20] by fractions of Python's own."""
    rows = numbers(value)
    square = product(list(zip(*rows)), rows)
    size = range(len(rows))
    return [[kind[0] * square[at][by] - kind[1] * (rows[at][by] + rows[by][at]) + (kind[2] if at == by else 0)
             for by in size] for at in size]


def value_of(form, row):
    return sum(number(row[at]) * number(row[by]) * part for at, line in enumerate(form) for by, part in enumerate(line))


def is_nowhere_below(form):
    """Whether no principal minor is below 0."""
    size = range(len(form))
    return all(determinant([[form[at][by] for by in chosen] for at in chosen]) >= 0
               for many in size for chosen in combinations(size, many + 1))


def opposite(form):
    return [[-part for part in row] for row in form]


class IsTable(unittest.TestCase):
    def test_tables(self):
        for value in (((NIL,),), TURN, THIN, ((ONE,) * 3,) * 3, ((LESS,) * 4,) * 4, (((-BIG, BIG + 2),),)):
            self.assertIs(is_table(value), True)
        for value in ((), ((),), (NIL,), ((ONE,) * 5,) * 5, [TURN], list(TURN), (list(TURN[0]), TURN[1]), TURN[:1],
                      (TURN[0], TURN[1], TURN[0]), ((ONE, (2, 2)), (ONE, ONE)), ((ONE, True), (ONE, ONE)), None, 7):
            self.assertIs(is_table(value), False)


class Keeping(unittest.TestCase):
    def check(self, value, kind, wanted):
        self.assertIs(keeps_kind(value, kind), wanted, (value, kind))
        found = breaking_row(value, kind)
        if wanted:
            self.assertIsNone(found, (value, kind))
            return
        self.assertEqual(len(found), len(value))
        self.assertGreater(value_of(form_of(value, kind), found), 0, (value, kind))
        nil = (NIL,) * len(value)
        self.assertFalse(holds(kind, gap_of(found, image(value, found), nil, nil)))

    def test_by_hand(self):
        self.check(TURN, UP, True)
        self.check(TURN, CALM, True)
        self.check(TURN, FIRM, False)
        self.check(THIN, FIRM, True)
        self.assertIs(keeps_kind(kind=CALM, table=along(1, BIG)), False)
        self.assertIsNone(breaking_row(kind=CALM, table=along(1, -1)))

    def test_rim(self):
        """At each size a table that just keeps the kind, and one that does not by very little."""
        for size in range(1, 5):
            for at in range(size):
                for part in (1, -1):
                    rim = [Fraction(1, 3)] * size
                    rim[at] = Fraction(part)
                    self.check(along(*rim), CALM, True)
                    rim[at] *= number(BEYOND)
                    self.check(along(*rim), CALM, False)
                rim = [Fraction(1, 3)] * size
                rim[at] = Fraction(0)
                self.check(along(*rim), FIRM, True)
                self.check(along(*rim), UP, True)
                rim[at] = Fraction(-1, 10 ** 300)
                self.check(along(*rim), FIRM, False)
                self.check(along(*rim), UP, False)

    def test_rim_of_turns(self):
        three, four = (3, 5), (4, 5)
        for p, q in ((three, four), (four, three), (LESS, NIL), (NIL, LESS), ((-3, 5), four)):
            self.check(turn_table(p, q), CALM, True)
            self.check(turn_table(pair(number(p) * number(BEYOND)), pair(number(q) * number(BEYOND))), CALM, False)
        # The circle of FIRM: centre and radius are 1 / 2.
        self.check(turn_table(pair(Fraction(4, 5)), pair(Fraction(2, 5))), FIRM, True)
        self.check(turn_table(pair(Fraction(4, 5)), pair(Fraction(2, 5) * number(BEYOND))), FIRM, False)

    def test_noughts_along(self):
        """Where the form has noughts along it, what stands beside them tells."""
        self.check(table((0, 1), (-1, 0)), UP, True)
        self.check(table((0, 1), (1, 0)), UP, False)
        self.check(table((0, 1), (0, 0)), UP, False)
        self.check(table((0, 0, 0), (0, 0, 1), (0, -1, 0)), UP, True)
        self.check(table((0, 0, 0), (0, 0, 1), (0, -1 + Fraction(1, BIG), 0)), UP, False)
        self.check(table((0, 0, 0, 0), (0, 0, 1, 0), (0, -1, 0, 0), (0, 0, 0, 1)), UP, True)
        self.check(table((0, 0, 0, 0), (0, 1, 1, 0), (0, -1, 0, 1), (0, 0, 0, 0)), UP, False)

    def test_one_row(self):
        for kind in small_kinds(2):
            for t in (Fraction(k, 4) for k in range(-12, 13)):
                self.check(table((t,)), kind, value_at(kind, (1, t, t * t)) <= 0)

    def test_against_minors(self):
        random = Random(1)
        kinds = small_kinds(3)
        seen = set()
        for _ in range(500):
            size = random.randint(1, 4)
            value = random_table(random, size, 2)
            kind = random.choice(kinds)
            if random.random() < 0.5:
                kind = random.choice((bounded((3, 1)), one_way((-3, 1)), (-9, 0, 1), disc_kind(ONE, (3, 1))))
            wanted = is_nowhere_below(opposite(form_of(value, kind)))
            self.check(value, kind, wanted)
            seen.add((size, wanted))
        self.assertEqual(len(seen), 8)

    def test_rows_of_tables_that_keep(self):
        """All gaps of rows are held: with a row added too, as only differences tell."""
        random = Random(2)
        for _ in range(200):
            size = random.randint(1, 4)
            value = random_table(random, size, 2)
            x, y = random_row(random, size), random_row(random, size)
            if x == y:
                continue
            for kind in (bounded((3, 1)), one_way((-2, 1)), FIRM, (-9, 0, 1)):
                if keeps_kind(value, kind):
                    self.assertTrue(holds(kind, gap_of(x, image(value, x), y, image(value, y))))

    def test_large_numbers(self):
        self.check(along(Fraction(BIG, BIG + 2), Fraction(-BIG, BIG + 2), 1), CALM, True)
        self.check(along(Fraction(BIG + 2, BIG), 0, 0, 0), CALM, False)
        random = Random(3)
        big = [pair(Fraction(random.randint(-10 ** 399, 10 ** 399), random.randint(1, 10 ** 399))) for _ in range(16)]
        value = tuple(tuple(big[4 * at:4 * at + 4]) for at in range(4))
        self.check(value, CALM, False)
        self.check(value, (-BIG, 0, 1), True)
        self.check(value, (-1, 0, BIG), False)
        small = table(*([number(part) / 10 ** 500 for part in row] for row in value))
        self.check(small, CALM, True)
        self.check(small, bounded((1, 10 ** 90)), True)


class Turns(unittest.TestCase):
    def test_turn_table(self):
        self.assertEqual(TURN, table((0, -1), (1, 0)))
        self.assertEqual(turn_table(second=(BIG, 2), first=HALF), ((HALF, (-BIG, 2)), ((BIG, 2), HALF)))
        random = Random(4)
        for _ in range(50):
            p, q = random_fraction(random, 5), random_fraction(random, 5)
            x, y = random_row(random, 2), random_row(random, 2)
            if x == y:
                continue
            turn = turn_table(p, q)
            a, b, c = map(number, gap_of(x, image(turn, x), y, image(turn, y)))
            p, q = number(p), number(q)
            self.assertEqual((b, c), (p * a, (p * p + q * q) * a))

    def test_turn_for(self):
        self.assertIsNone(turn_for((ONE, HALF, ONE)))
        self.assertIsNone(turn_for((NIL, NIL, ONE)))
        self.assertIsNone(turn_for(gap=(NIL, NIL, (4, 1))))
        self.assertIn(turn_for((ONE, NIL, ONE)), (turn_table(NIL, ONE), turn_table(NIL, LESS)))
        self.assertEqual(turn_for((ONE, NIL, NIL)), turn_table(NIL, NIL))
        self.assertEqual(turn_for((TWO, LESS, HALF)), turn_table((-1, 2), NIL))
        found = turn_for(as_gap((3 * BIG ** 2, 9 * BIG, 27 + 16 * 3)))
        self.assertEqual(found[0][0], (3, BIG))
        self.assertIn(found[1][0], ((4, BIG), (-4, BIG)))
        self.assertIsNone(turn_for(as_gap((3 * BIG ** 2, 9 * BIG, 28 + 16 * 3))))

    def test_each_small_gap(self):
        for gap in small_gaps(6):
            for scale in (1, Fraction(2, 3)):
                found = turn_for(as_gap([scale * part for part in gap]))
                a, b, c = gap
                rest = a * c - b * b
                wanted = a > 0 and any(root * root == rest for root in range(rest + 1))
                self.assertEqual(found is not None, wanted, gap)
                if wanted:
                    p, q = number(found[0][0]), number(found[1][0])
                    self.assertEqual(found, turn_table(pair(p), pair(q)))
                    self.assertEqual((a * p, a * (p * p + q * q)), (b, c))


class Leading(unittest.TestCase):
    def test_by_hand(self):
        half = Fraction(1, 2)
        self.assertEqual(led_table(TURN, ((ONE, ONE), (ONE, NIL))), table((half, half), (-half, half)))
        self.assertIsNone(led_table(turn_table(LESS, NIL), resolvent_lead(ONE)))
        self.assertIsNone(led_table(lead=BACK, table=THIN))
        self.assertEqual(led_table(along(2, 4), BACK), along(Fraction(1, 2), Fraction(1, 4)))
        self.assertEqual(led_table(((NIL,),), step_lead(HALF)), ((ONE,),))
        self.assertIsNone(led_table(((NIL,),), BACK))
        self.assertIsNone(led_table(along(1, 1, 1, -2), resolvent_lead(HALF)))
        # Of its inverse some rows must change places.
        self.assertEqual(led_table(table((0, 1), (1, 0)), BACK), table((0, 1), (1, 0)))
        back = table((0, 0, Fraction(1, 4)), (half, 0, 0), (0, Fraction(1, 3), 0))
        self.assertEqual(led_table(table((0, 2, 0), (0, 0, 3), (4, 0, 0)), BACK), back)

    def test_pairs_led(self):
        random = Random(5)
        none = 0
        for _ in range(300):
            size = random.randint(1, 4)
            value, lead = random_table(random, size, 2), random_lead(random, 2)
            if random.random() < 0.3:
                value = along(*(random.choice((-1, 0, 1, 2)) for _ in range(size)))
            (e, f), (g, h) = (tuple(map(number, row)) for row in lead)
            found = led_table(value, lead)
            base = shifted(e, f, value)
            self.assertEqual(found is None, determinant(base) == 0, (value, lead))
            if found is None:
                none += 1
                continue
            self.assertTrue(is_table(found))
            for _ in range(2):
                x = random_row(random, size)
                u = image(value, x)
                place = tuple(pair(e * number(a) + f * number(b)) for a, b in zip(x, u))
                leads_to = tuple(pair(g * number(a) + h * number(b)) for a, b in zip(x, u))
                self.assertEqual(image(found, place), leads_to)
        self.assertGreater(none, 10)

    def test_kinds_led(self):
        random = Random(6)
        kinds = small_kinds(2)
        seen = set()
        for _ in range(300):
            size = random.randint(1, 4)
            value, lead, kind = random_table(random, size, 2), random_lead(random, 2), random.choice(kinds)
            found = led_table(value, lead)
            if found is not None:
                wanted = keeps_kind(value, kind)
                self.assertIs(keeps_kind(found, led(kind, lead)), wanted, (value, lead, kind))
                seen.add(wanted)
        self.assertEqual(seen, {True, False})

    def test_reflections_of_one_way_tables(self):
        """Resolvents of tables that go one way are firm, their reflections bring near by 1."""
        random = Random(7)
        for size in (1, 2, 3, 4):
            rows = numbers(random_table(random, size, 3))
            twist = table(*([rows[at][by] - rows[by][at] for by in range(size)] for at in range(size)))
            self.assertTrue(keeps_kind(twist, UP))
            self.assertTrue(keeps_kind(led_table(twist, resolvent_lead(TWO)), pulled(ONE)))
            self.assertTrue(keeps_kind(led_table(twist, reflection_lead(TWO)), CALM))

    def test_large_numbers(self):
        lead = (((1, BIG), (BIG, 3)), ((BIG, 7), (5, BIG)))
        value = table((Fraction(BIG, 2), Fraction(1, BIG)), (Fraction(-1, BIG + 2), Fraction(BIG, 5)))
        found = led_table(value, lead)
        back = led_table(found, tuple(tuple(pair(part) for part in row) for row in inverse(lead)))
        self.assertEqual(back, value)


def inverse(lead):
    (e, f), (g, h) = (tuple(map(number, row)) for row in lead)
    whole = e * h - f * g
    return (h / whole, -f / whole), (-g / whole, e / whole)


class BlendTables(unittest.TestCase):
    def test_by_hand(self):
        self.assertEqual(blend_table(TURN, TURN, CHAIN), along(-1, -1))
        self.assertEqual(blend_table(mix=(TWO, LESS, NIL), other=TURN, table=THIN), along(Fraction(3, 2), 2))
        # T S, not S T.
        one, other = table((0, 1), (0, 0)), table((0, 0), (1, 0))
        self.assertEqual(blend_table(one, other, CHAIN), along(0, 1))
        self.assertEqual(blend_table(other, one, CHAIN), along(1, 0))

    def test_rows(self):
        random = Random(8)
        for _ in range(100):
            size = random.randint(1, 4)
            one, other = random_table(random, size), random_table(random, size)
            weights = tuple(random_fraction(random, 3) for _ in range(3))
            found = blend_table(one, other, weights)
            self.assertTrue(is_table(found))
            x = random_row(random, size)
            s = image(one, x)
            t = image(other, s)
            wanted = tuple(pair(sum(number(w) * number(part) for w, part in zip(weights, parts)))
                           for parts in zip(x, s, t))
            self.assertEqual(image(found, x), wanted)

    def test_blends_of_discs(self):
        """Turns of two discs have blends that are of the disc that is told for all maps."""
        random = Random(9)
        for _ in range(60):
            first, second = (HALF, HALF), (NIL, ONE)
            # Turns of the size 1, then those of the discs.
            rounds = [turn_table(pair(Fraction(k * k - 1, k * k + 1)), pair(Fraction(2 * k, k * k + 1)))
                      for k in (random.randint(-3, 3), random.randint(-3, 3))]
            one = blend_table(rounds[0], rounds[0], (HALF, HALF, NIL))
            self.assertTrue(keeps_kind(one, kind_of_disc(first)))
            weights = tuple(random_fraction(random, 2) for _ in range(3))
            radius = Fraction(random.randint(1, 8), 3)
            if blend_fits(first, second, weights, (NIL, pair(radius))):
                self.assertTrue(keeps_kind(blend_table(one, rounds[1], weights), bounded(pair(radius))), weights)

    def test_wrong_sizes(self):
        for one in range(1, 5):
            for other in range(1, 5):
                first, second = ((ONE,) * one,) * one, ((ONE,) * other,) * other
                if one == other:
                    blend_table(first, second, MEAN)
                    continue
                with self.assertRaises(InvalidTable) as caught:
                    blend_table(first, second, MEAN)
                self.assertIs(caught.exception.given, second)


class Widths(unittest.TestCase):
    def check(self, value, centre, many, wanted=None):
        """The count is right by minors of (count / many) 1 - (T - c)'(T - c)."""
        count, is_just = width_square_near(value, centre, many)
        if wanted is not None:
            self.assertEqual((count, is_just), wanted)
        less = shifted(-number(centre), 1, value)
        square = product(list(zip(*less)), less)

        def left(top):
            return [[(Fraction(top, many) if at == by else 0) - part for by, part in enumerate(row)]
                    for at, row in enumerate(square)]

        self.assertIs(is_just, is_nowhere_below(left(count)), (value, centre, many))
        self.assertTrue(is_nowhere_below(left(count + 1)) and determinant(left(count + 1)) != 0, (value, centre, many))
        if is_just:
            self.assertEqual(determinant(left(count)), 0)
        self.assertIsInstance(count, int)
        self.assertIs(type(is_just), bool)

    def test_by_hand(self):
        self.check(TURN, NIL, 10, (10, True))
        self.check(THIN, HALF, 4, (1, True))
        self.check(table((1, 1), (0, 1)), NIL, 100, (261, False))
        self.check(table((0,)), NIL, 7, (0, True))
        self.check(table((3,)), (3, 1), 10 ** 6, (0, True))
        self.check(table((-3,)), HALF, 4, (49, True))
        self.check(along(1, 1, 1, 1), NIL, 3, (3, True))
        self.check(along(0, Fraction(1, BIG)), NIL, 10 ** 6, (0, False))
        self.assertEqual(width_square_near(many=1, centre=LESS, table=along(2, 1)), (9, True))
        # 1 is a root of this form, but not the greatest one.
        self.check(along(1, Fraction(11, 10)), NIL, 1, (1, False))
        self.check(along(1, Fraction(11, 10)), NIL, 100, (121, True))

    def test_random(self):
        random = Random(10)
        for _ in range(150):
            size = random.randint(1, 4)
            value = random_table(random, size, 2)
            if random.random() < 0.3:
                value = tuple(tuple(value[min(at, by)][max(at, by)] for by in range(size)) for at in range(size))
            self.check(value, random.choice((NIL, ONE, random_fraction(random, 2))), random.choice((1, 3, 64, 10 ** 6)))

    def test_discs(self):
        """T is of the disc (c, R) exactly if R is at least the width."""
        random = Random(11)
        for _ in range(60):
            value = random_table(random, random.randint(1, 4), 2)
            centre = random_fraction(random, 2)
            many = 10 ** 4
            count, _ = width_square_near(value, centre, many)
            root = Fraction(int((count * 100) ** 0.5), 1000)
            above, below = root + Fraction(1, 100), root - Fraction(1, 100)
            self.assertTrue(keeps_kind(value, disc_kind(centre, pair(above))))
            if below > 0:
                self.assertFalse(keeps_kind(value, disc_kind(centre, pair(below))))

    def test_large_numbers(self):
        value = table((Fraction(BIG, 3), Fraction(1, BIG)), (Fraction(BIG, BIG + 2), Fraction(-BIG, 7)))
        self.check(value, (BIG, 2), 1000)
        self.check(along(BIG, -BIG, BIG - 1), NIL, 10 ** 6, (BIG ** 2 * 10 ** 6, True))
        self.check(table((BIG, 1), (0, BIG)), NIL, 7)
        self.check(turn_table((3, BIG), (4, BIG)), NIL, 1, (0, False))


class Rests(unittest.TestCase):
    def test_by_hand(self):
        self.assertEqual(rest_of_table(along(Fraction(1, 2), Fraction(1, 2)), (ONE, TWO)), (TWO, (4, 1)))
        self.assertIsNone(rest_of_table(turn_table(ONE, NIL), (ONE, ONE)))
        self.assertIsNone(rest_of_table(turn_table(ONE, NIL), (NIL, NIL)))
        self.assertIsNone(rest_of_table(along(Fraction(1, 2), 1, 0, 0), (ONE, NIL, NIL, NIL)))
        self.assertEqual(rest_of_table(row=(ONE,), table=((TWO,),)), (LESS,))
        self.assertEqual(rest_of_table(table((1, 1), (1, 1)), (ONE, TWO)), ((-2, 1), LESS))

    def test_random(self):
        random = Random(12)
        none = 0
        for _ in range(300):
            size = random.randint(1, 4)
            value, row = random_table(random, size, 1), random_row(random, size)
            found = rest_of_table(value, row)
            self.assertEqual(found is None, determinant(shifted(1, -1, value)) == 0)
            if found is None:
                none += 1
                continue
            self.assertEqual(found, tuple(pair(number(a) + number(b)) for a, b in zip(image(value, found), row)))
            self.assertEqual(run_of_table(value, row, found, 2), (found,) * 3)
        self.assertGreater(none, 10)

    def test_large_numbers(self):
        value = table((Fraction(BIG, 3), Fraction(1, BIG)), (Fraction(BIG, BIG + 2), Fraction(-BIG, 7)))
        row = ((BIG, 2), (1, BIG))
        found = rest_of_table(value, row)
        self.assertEqual(run_of_table(value, row, found, 1), (found, found))

    def test_wrong_rows(self):
        for size in range(1, 5):
            value = ((ONE,) * size,) * size
            for other in range(0, 6):
                if other == size:
                    continue
                wrong, good = (ONE,) * other, (ONE,) * size
                for call, passed in ((rest_of_table, (wrong,)), (run_of_table, (wrong, (), 2)),
                                     (run_of_table, (good, wrong, None))):
                    with self.assertRaises(InvalidRow) as caught:
                        call(value, *passed)
                    self.assertIsNone(caught.exception.index)


class Runs(unittest.TestCase):
    def test_by_hand(self):
        self.assertEqual(run_of_table(THIN, (ONE, ONE), (NIL, NIL), 2), ((NIL, NIL), (ONE, ONE), ((3, 2), ONE)))
        self.assertEqual(run_of_table(number=0, start=(HALF, TWO), row=(ONE, ONE), table=THIN), ((HALF, TWO),))
        self.assertEqual(run_of_table(((TWO,),), (LESS,), (TWO,), 12), tuple(((2 ** k + 1, 1),) for k in range(13)))
        places = ((ONE, NIL), (NIL, ONE), (LESS, NIL), (NIL, LESS), (ONE, NIL))
        self.assertEqual(run_of_table(TURN, (NIL, NIL), (ONE, NIL), 4), places)

    def test_rows(self):
        random = Random(13)
        for _ in range(40):
            size = random.randint(1, 4)
            value, row, start = random_table(random, size), random_row(random, size), random_row(random, size)
            found = run_of_table(value, row, start, 4)
            self.assertEqual((len(found), found[0]), (5, start))
            for before, behind in zip(found, found[1:]):
                self.assertEqual(behind, tuple(pair(number(a) + number(b)) for a, b in zip(image(value, before), row)))

    def test_each_step_brings_nearer(self):
        random = Random(14)
        for _ in range(40):
            size = random.randint(1, 4)
            value, row, start = random_table(random, size, 2), random_row(random, size), random_row(random, size)
            rest = rest_of_table(value, row)
            if rest is None:
                continue
            count, _ = width_square_near(value, NIL, 100)
            ways = [sum((number(a) - number(b)) ** 2 for a, b in zip(place, rest))
                    for place in run_of_table(value, row, start, 5)]
            for before, behind in zip(ways, ways[1:]):
                self.assertLessEqual(behind, before * Fraction(count + 1, 100))

    def test_averaged_tables(self):
        half = blend_table(TURN, TURN, (HALF, HALF, NIL))
        self.assertTrue(keeps_kind(half, averaged(HALF)))
        self.assertFalse(keeps_kind(TURN, averaged(HALF)))
        self.assertTrue(keeps_kind(half, FIRM) and not keeps_kind(half, FAR))


if __name__ == "__main__":
    unittest.main()
