"""Points [25] and [26]: rests, rest numbers, rest words, and the settled rest."""

import unittest
from fractions import Fraction
from random import Random

from bringnear.data import could_lead, is_data, misfit, settled
from bringnear.errors import InvalidRow, Misfit, Wild
from bringnear.rests import any_rest, can_rest, rest_number, rest_word, settled_rest
from tests.helpers import HALF, LESS, NIL, ONE, TWO, number, pair, small_kinds
from tests.known import (
    BIG, CALM, FAR, FIRM, HALVED, cases, dot, is_row, known, less, moved_by, nought, parts, random_row, row,
)

CLOSED = [kind for kind in small_kinds(3) if kind[0] > 0]
SINGLE, EVEN, WILD = ([kind for kind in CLOSED if wanted(kind[0] - 2 * kind[1] + kind[2])]
                      for wanted in (lambda e: e > 0, lambda e: e == 0, lambda e: e < 0))
APART, ALONG = known((0, 1), (2, 1)), known((0, 1), (2, 3))
TURN = known(((1, 0), (0, 1)), ((0, 1), (-1, 0)), ((-1, 0), (0, -1)), ((0, -1), (1, 0)))
TINY = Fraction(1, 10 ** 300)


def rests_by_the_words(kind, data, place):
    """The inequality of [25]."""
    a, b, d = kind
    z = parts(place)
    for x, u in data:
        way, move = less(z, parts(x)), less(parts(u), parts(x))
        if (a - 2 * b + d) * dot(way, way) - 2 * (a - b) * dot(way, move) + a * dot(move, move) > 0:
            return False
    return True


def half_spaces(kind, data):
    """For the rest number 0: (way, height) for way . z at least the height."""
    found = []
    for x, u in data:
        move = less(parts(u), parts(x))
        way = [2 * (kind[0] - kind[1]) * part for part in move]
        found.append((way, dot(way, parts(x)) + kind[0] * dot(move, move)))
    return found


def has_row(rules, many):
    """Whether some row z has way . z at least, or for strict rules above, each height: unknown by unknown left out."""
    for at in range(many):
        below = [rule for rule in rules if rule[0][at] > 0]
        above = [rule for rule in rules if rule[0][at] < 0]
        rules = [rule for rule in rules if rule[0][at] == 0]
        for way, height, strict in below:
            for other, other_height, other_strict in above:
                scale = -way[at] / other[at]
                sides = height + scale * other_height, strict or other_strict
                rules.append(([a + scale * b for a, b in zip(way, other)], *sides))
    return all(height < 0 if strict else height <= 0 for _, height, strict in rules)


def unit(many, at, sign):
    return [Fraction(sign if at == by else 0) for by in range(many)]


def spun_cases(kinds, count, seed):
    """Kinds, and data of maps that stretch each unknown, from their rest on, as far as the kind lets them."""
    random = Random(seed)
    spun = [(kind, root) for kind in kinds for root in range(20) if root * root == kind[1] ** 2 - kind[0] * kind[2]]
    for _ in range(count):
        kind, root = random.choice(spun)
        a, b, _ = kind
        many = random.randint(1, 3)
        rest = parts(random_row(random, many))
        stretch = [Fraction(b + random.choice((1, -1)) * root, a) for _ in range(many)]
        data = ()
        for _ in range(random.randint(1, 3)):
            way = parts(random_row(random, many, 2))
            for sign in random.choice(((1, -1), (1, -1), (1,))):
                x = [p + sign * q for p, q in zip(rest, way)]
                data += ((row(*x), row(*[p + sign * k * q for p, k, q in zip(rest, stretch, way)])),)
        yield kind, data


def signed_units(many):
    return [unit(many, at, sign) for at in range(many) for sign in (1, -1)]


def word_by_the_words(kind, data):
    """[26] for the rest number 0, by leaving out unknowns."""
    many = len(data[0][0])
    halves = half_spaces(kind, data)
    rules = [(way, height, False) for way, height in halves]
    ways = [(way, Fraction(0), False) for way, _ in halves]
    endless = any(has_row([*ways, (way, Fraction(1), False)], many) for way in signed_units(many))
    inner = has_row([(way, height, True) for way, height in halves], many)
    one = parts(any_rest(kind, data))
    if not any(has_row([*rules, (way, dot(way, one), True)], many) for way in signed_units(many)):
        return "settled"
    return "loose" if endless and inner else "sure"


class RestNumbers(unittest.TestCase):
    def test_by_hand(self):
        for kind, wanted in ((CALM, 0), (HALVED, 3), ((0, 1, 0), -2), ((-1, 0, 1), 0), (FIRM, 0), (FAR, 0),
                             ((1, 0, -4), -3), ((0, -1, 5), 7), ((1, BIG, 0), 1 - 2 * BIG)):
            self.assertEqual(rest_number(kind), wanted)
        self.assertEqual(rest_number(kind=HALVED), 3)

    def test_all_three_signs(self):
        self.assertTrue(len(SINGLE) > 10 and len(EVEN) > 5 and len(WILD) > 10)


class CanRest(unittest.TestCase):
    def test_by_hand(self):
        self.assertIs(can_rest(CALM, APART, (HALF,)), True)
        self.assertIs(can_rest(CALM, APART, ((3, 2),)), True)
        self.assertIs(can_rest(CALM, APART, row(Fraction(1, 2) - TINY)), False)
        self.assertIs(can_rest(CALM, APART, row(Fraction(3, 2) + TINY)), False)
        self.assertIs(can_rest(place=((2, 5),), data=APART, kind=CALM), False)
        self.assertIs(can_rest(CALM, ALONG, (TWO,)), False)
        self.assertIs(can_rest(CALM, ALONG, ((5, 2),)), True)
        one = known((0, 1))
        for place, wanted in ((2, True), (Fraction(2, 3), True), (3, False), (2 + TINY, False),
                              (Fraction(2, 3) - TINY, False)):
            self.assertIs(can_rest(HALVED, one, row(place)), wanted)

    def test_below_nought(self):
        wide = (1, 0, -4)
        for place, wanted in ((1, True), (Fraction(1, 3), True), (0, False), (-1, True), (BIG, True),
                              (-1 + TINY, False), (Fraction(1, 3) + TINY, True), (Fraction(1, 3) - TINY, False)):
            self.assertIs(can_rest(wide, known((0, 1)), row(place)), wanted, place)

    def test_as_the_others_tell(self):
        random = Random(1)
        seen = set()
        for kind, data, place in cases(CLOSED, 300, 2):
            if len(data) == 6:
                data = data[:5]
            for z in (place, any_rest(kind, data), random_row(random, len(place)), random.choice(data)[0]):
                found = can_rest(kind, data, z)
                self.assertIs(found, rests_by_the_words(kind, data, z), (kind, data, z))
                self.assertIs(found, could_lead(kind, data, z, z), (kind, data, z))
                self.assertIs(found, misfit(kind, (*data, (z, z))) is None)
                sign = rest_number(kind)
                seen.add(((sign > 0) - (sign < 0), found))
        self.assertEqual(len(seen), 6)

    def test_rests_of_the_data_themselves(self):
        for kind in CLOSED:
            data = known(((1, 2), (1, 2)))
            self.assertIs(can_rest(kind, data, row(1, 2)), True)
            self.assertIs(can_rest(kind, data, row(1, 3)), rest_number(kind) <= 0)


class AnyRest(unittest.TestCase):
    def check(self, kind, data):
        found = any_rest(kind, data)
        self.assertTrue(is_row(found, len(data[0][0])), (kind, data))
        self.assertIs(can_rest(kind, data, found), True, (kind, data, found))
        self.assertTrue(rests_by_the_words(kind, data, found))
        return found

    def test_all_kinds(self):
        seen = set()
        for kind, data, _ in cases(CLOSED, 400, 3):
            self.check(kind, data)
            sign = rest_number(kind)
            seen.add(((sign > 0) - (sign < 0), len(data), len(data[0][0])))
        self.assertGreater(len(seen), 45)

    def test_by_hand(self):
        self.assertEqual(any_rest(CALM, known((0, 0), (1, 0), (3, Fraction(3, 2)))) in (row(0),), True)
        self.assertEqual(any_rest(data=known((0, 1), (4, 3)), kind=HALVED), row(2))
        self.assertEqual(any_rest(CALM, TURN), row(0, 0))
        for data in (APART, ALONG, TURN, TURN[:1], TURN[:2], TURN[:3]):
            self.check(CALM, data)

    def test_data_that_are_rests(self):
        for kind in CLOSED:
            for data in (known(((1, 2), (1, 2))), known((5, 5)), known(((1, 2, 3), (1, 2, 3)))):
                found = self.check(kind, data)
                if rest_number(kind) > 0:
                    self.assertEqual(found, data[0][0])

    def test_far_enough(self):
        """With the rest number below 0 all rows that are far enough can rest."""
        random = Random(4)
        for kind, data, place in cases(WILD, 100, 5):
            self.check(kind, data)
            for _ in range(4):
                far = [part * 10 ** 6 for part in parts(random_row(random, len(place)))]
                if any(far):
                    self.assertIs(can_rest(kind, data, row(*far)), True)

    def test_far_with_large_kinds(self):
        """Rest numbers of - 1 beside a large B: only rows that are as far out as B can rest."""
        for kind in ((1, BIG, 2 * BIG - 2), (1, -BIG, -2 - 2 * BIG), (BIG, 1, -BIG), (BIG, -1, -3 - BIG)):
            self.assertLess(rest_number(kind), 0)
            for move in (1, -1, BIG, Fraction(1, BIG)):
                self.check(kind, known((0, move)))
                self.check(kind, known(((0, 7), (move, 7))))
                self.check(kind, known(((0, 7, -BIG), (0, 7 + move, -BIG))))

    def test_large_numbers(self):
        big = Fraction(BIG, 7)
        for kind, data, _ in cases(CLOSED, 60, 6):
            moved = tuple(tuple(moved_by(side, big, 1 / big) for side in each) for each in data)
            self.assertTrue(can_rest(kind, moved, any_rest(kind, moved)))
            if rest_number(kind) >= 0:
                self.assertEqual(rest_word(kind, moved), rest_word(kind, data))
                one = settled_rest(kind, data)
                wanted = None if one is None else moved_by(one, big, 1 / big)
                self.assertEqual(settled_rest(kind, moved), wanted)
        for kind in ((BIG, 1, 0), (BIG, BIG - 1, BIG - 2), (BIG, 2 - BIG, 4 - 3 * BIG), (1, BIG, 1), (1, 0, -BIG)):
            for data in (known((0, 1)), known(((BIG, 1), (1, 2))), known(((1, 0, 3), (BIG, 1, Fraction(1, BIG))))):
                self.check(kind, data)


class Words(unittest.TestCase):
    def check(self, kind, data, word, one=None):
        self.assertEqual(rest_word(kind, data), word, (kind, data))
        self.assertEqual(settled_rest(kind, data), one, (kind, data))
        if one is not None:
            self.assertEqual(any_rest(kind, data), one)

    def test_one_unknown(self):
        self.check(CALM, APART, "sure")
        self.check(CALM, ALONG, "loose")
        self.check(CALM, known((0, 1)), "loose")
        self.check(CALM, known((1, 0)), "loose")
        self.check(CALM, known((0, 1), (1, 0)), "settled", (HALF,))
        self.check(CALM, known((0, 1), (1, 0), (5, Fraction(-7, 2))), "settled", (HALF,))
        self.check(CALM, known((0, 1), (1, TINY)), "sure")
        self.check(CALM, known((0, 0)), "sure")
        self.check(CALM, known((0, 0), (2, 2)), "sure")
        self.check(CALM, known((0, 0), (5, 2)), "sure")
        self.check(CALM, known((0, 0), (5, -5)), "sure")
        self.check(CALM, known((0, 0), (5, -5), (-5, 5)), "settled", (NIL,))
        self.check(FIRM, known((0, 1)), "loose")
        self.check(FIRM, known((0, 1), (3, 2)), "sure")
        # x goes to x - 1 at 1, is kept at 0: for FIRM between 0 and 1 all go to 0.
        self.check(FIRM, known((0, 0), (1, 0)), "sure")
        self.check(FIRM, known((-1, 0), (1, 0)), "settled", (NIL,))
        self.check(FAR, known((0, 1)), "loose")
        self.check(FAR, known((0, 1), (1, 4)), "loose")
        self.check(FAR, known((0, -1), (1, 2)), "settled", (HALF,))
        self.assertEqual(rest_word(data=APART, kind=CALM), "sure")
        self.assertIsNone(settled_rest(data=APART, kind=CALM))

    def test_turn(self):
        self.check(CALM, TURN[:1], "loose")
        self.check(CALM, TURN[:2], "loose")
        self.check(CALM, TURN[:3], "sure")
        self.check(CALM, TURN, "settled", row(0, 0))
        self.check(CALM, (TURN[0], TURN[2]), "sure")

    def test_two_unknowns(self):
        # A stripe with rows within: endless and broad.
        self.check(CALM, known(((0, 0), (1, 0)), ((4, 0), (3, 0))), "loose")
        # A stripe that is one line: endless, not broad.
        self.check(CALM, known(((0, 0), (1, 0)), ((1, 0), (0, 0))), "sure")
        # A half line, broad and not.
        self.check(CALM, known(((0, 0), (1, 0)), ((4, 0), (3, 0)), ((1, 0), (1, 1))), "loose")
        self.check(CALM, known(((-1, 0), (1, 0)), ((1, 0), (-1, 0)), ((0, -3), (0, -2))), "sure")
        # A bounded part: a square, a segment, one row.
        square = known(((-2, 0), (-1, 0)), ((2, 0), (1, 0)), ((0, -2), (0, -1)), ((0, 2), (0, 1)))
        self.check(CALM, square, "sure")
        self.check(CALM, (*square[2:], *known(((-1, 0), (1, 0)), ((1, 0), (-1, 0)))), "sure")
        cross = known(((-1, 0), (1, 0)), ((1, 0), (-1, 0)), ((0, 1), (0, -1)), ((0, -1), (0, 1)))
        self.check(CALM, cross, "settled", row(0, 0))
        # A pair that is a rest makes it sure, and may settle it.
        self.check(CALM, known(((0, 0), (0, 0))), "sure")
        self.check(CALM, known(((0, 0), (1, 0)), ((9, 9), (9, 9))), "sure")
        self.check(CALM, known(((0, 0), (0, 0)), ((1, 0), (-1, 0))), "sure")
        self.check(CALM, known(((0, 0), (0, 0)), ((1, 0), (0, 1)), ((-1, 0), (0, -1))), "sure")
        self.check(CALM, known(((0, 0), (0, 0)), ((1, 0), (0, 1)), ((0, 1), (-1, 0)), ((-1, 0), (0, -1))), "sure")
        self.check(CALM, (*known(((0, 0), (0, 0))), *TURN), "settled", row(0, 0))

    def test_three_unknowns(self):
        for move in ((1, 0, 0), (1, 2, -3)):
            self.check(CALM, known(((0, 0, 0), move)), "loose")
        ends = [tuple(sign if at == by else 0 for by in range(3)) for at in range(3) for sign in (1, -1)]
        back = [(end, tuple(-part for part in end)) for end in ends]
        self.check(CALM, known(*back), "settled", row(0, 0, 0))
        self.check(CALM, known(*back[:5]), "sure")
        self.check(CALM, known(*back[:4]), "sure")
        self.check(CALM, known(*back[::2]), "loose")
        self.check(CALM, known(*back[1:4]), "sure")
        half = [(end, tuple(Fraction(part, 2) for part in end)) for end in ends]
        self.check(CALM, known(*half), "sure")
        self.check(CALM, known(*half[:5]), "loose")
        corners = ((1, 1, 1), (1, -1, -1), (-1, 1, -1), (-1, -1, 1))
        back = [(corner, tuple(-part for part in corner)) for corner in corners]
        self.check(CALM, known(*back), "settled", row(0, 0, 0))
        self.check(CALM, known(*back[:3]), "loose")
        self.check(CALM, known(*((corner, tuple(-part * (1 - TINY) for part in corner)) for corner in corners)), "sure")

    def test_above_nought(self):
        self.check(HALVED, known((0, 1)), "single")
        self.check(HALVED, known((0, 0)), "settled", (NIL,))
        self.check(HALVED, known((0, 1), (4, 3)), "settled", (TWO,))
        self.check(HALVED, known((0, 1), (4, 3 - TINY)), "single")
        self.check(HALVED, known(((1, 0), (Fraction(1, 2), 0)), ((-1, 0), (Fraction(-1, 2), 0))), "settled", row(0, 0))
        self.check(HALVED, known(((1, 0), (0, Fraction(1, 2))), ((-1, 0), (0, Fraction(-1, 2)))), "settled", row(0, 0))
        self.check(HALVED, known(((1, 0), (0, Fraction(1, 2))), ((-1, 0), (0, Fraction(-49, 100)))), "single")
        for kind in SINGLE:
            self.check(kind, known(((1, 2, 3), (1, 2, 3))), "settled", row(1, 2, 3))
            self.check(kind, known(((1, 2, 3), (1, 2, 4))), "single")

    def test_even_kinds_by_leaving_out_unknowns(self):
        seen = set()
        for kind, data in [case[:2] for case in cases(EVEN, 300, 7)] + list(spun_cases(EVEN, 300, 13)):
            word = word_by_the_words(kind, data)
            self.check(kind, data, word, any_rest(kind, data) if word == "settled" else None)
            seen.add((word, len(data[0][0])))
        self.assertEqual(len(seen), 9)

    def test_even_kinds_by_planes_of_small_moves(self):
        """Moves of few ways, so that half spaces meet, face one another and cover each other."""
        random = Random(8)
        seen = set()
        for _ in range(900):
            many, pairs = random.randint(1, 3), random.randint(1, 6)
            data = ()
            while len(data) < pairs:
                x = [random.randint(-1, 1) for _ in range(many)]
                some = [random.randint(-1, 1) for _ in range(many)]
                move = random.choice((some, [-2 * part for part in x], [-part for part in x]))
                more = (*data, (row(*x), row(*[a + b for a, b in zip(x, move)])))
                if misfit(CALM, more) is None:
                    data = more
                elif random.random() < 0.1:
                    break
            if data:
                word = word_by_the_words(CALM, data)
                self.check(CALM, data, word, any_rest(CALM, data) if word == "settled" else None)
                seen.add((word, many, len(data)))
        self.assertGreater(len(seen), 40)

    def test_other_even_kinds_come_down_to_one(self):
        """u goes to (u - C x) / (1 - C): the rests stay, the kind becomes (1, 0, - 1)."""
        for kind, data, _ in cases(EVEN, 150, 9):
            centre = Fraction(kind[1], kind[0])
            down = tuple((x, row(*[(q - centre * p) / (1 - centre) for p, q in zip(parts(x), parts(u))]))
                         for x, u in data)
            self.assertIsNone(misfit(CALM, down))
            self.assertEqual(rest_word(kind, data), rest_word(CALM, down))
            self.assertEqual(settled_rest(kind, data), settled_rest(CALM, down))

    def test_single_kinds_by_rows_beside(self):
        """If the word is settled no row beside can rest; else rows all round some one can."""
        seen = set()
        for kind, data in [case[:2] for case in cases(SINGLE, 200, 10)] + list(spun_cases(SINGLE, 200, 14)):
            word = rest_word(kind, data)
            z = parts(any_rest(kind, data))
            self.assertIn(word, ("settled", "single"))
            self.assertEqual(settled_rest(kind, data), row(*z) if word == "settled" else None)
            for way in signed_units(len(z)):
                beside = row(*[part + TINY * step for part, step in zip(z, way)])
                self.assertIs(can_rest(kind, data, beside), word == "single", (kind, data))
            seen.add((word, len(z)))
        self.assertEqual(len(seen), 6)

    def test_a_settled_rest_is_settled(self):
        """All maps lead it to itself: so it is a settled place, with its own value."""
        count = 0
        kinds = SINGLE + EVEN
        for kind, data in [case[:2] for case in cases(kinds, 200, 11)] + list(spun_cases(kinds, 200, 15)):
            one = settled_rest(kind, data)
            if one is None:
                continue
            count += 1
            self.assertEqual(settled(kind, data, one), one)
            self.assertIs(can_rest(kind, data, one), True)
        self.assertGreater(count, 40)

    def test_loose_data_of_moves_along(self):
        """x + w keeps (1, 0, - 1) and has no rest: its data are loose."""
        random = Random(12)
        for _ in range(60):
            many = random.randint(1, 3)
            way = parts(random_row(random, many))
            places = [random_row(random, many) for _ in range(5)]
            data = tuple((x, row(*[p + q for p, q in zip(parts(x), way)])) for x in places)
            if any(way):
                self.check(CALM, data, "loose")

    def test_wild(self):
        for kind in WILD:
            for call in (rest_word, settled_rest):
                for data in (known((0, 0)), known(((1, 2), (2, 2)))):
                    with self.assertRaises(Wild):
                        call(kind, data)


class WrongArguments(unittest.TestCase):
    def test_rows_as_long_as_those_of_the_data(self):
        for many in (1, 2, 3):
            data = (((ONE,) * many, (LESS,) * many),)
            for other in (0, 1, 2, 3, 4):
                if other != many:
                    with self.assertRaises(InvalidRow) as caught:
                        can_rest(CALM, data, nought(other))
                    self.assertIsNone(caught.exception.index)

    def test_misfits_are_told(self):
        data = known((0, 0), (1, 1), (2, 4), (3, 9))
        self.assertTrue(is_data(data))
        for call in (lambda: any_rest(CALM, data), lambda: rest_word(CALM, data), lambda: settled_rest(CALM, data),
                     lambda: can_rest(CALM, data, (pair(number(HALF)),))):
            with self.assertRaises(Misfit) as caught:
                call()
            self.assertEqual(caught.exception.index, (0, 2))


if __name__ == "__main__":
    unittest.main()
