"""Points [31] to [33]: methods, weights and their forms, runs, what shows and breaks a rate, the plain descent."""

import unittest
from fractions import Fraction
from random import Random

from bringnear.errors import InvalidMarks, InvalidShare, InvalidSpan, InvalidStep, InvalidWeights
from bringnear.functions import misfit_of_marks
from bringnear.rates import (
    breaks_rate, descent, descent_marks, descent_share, descent_weights, form, is_method, is_run, shows_rate,
)
from tests.helpers import HALF, LESS, NIL, ONE, TWO, number, pair, random_fraction
from tests.known import BIG, dot, less, nought, parts, random_row, row
from tests.slopes import SPANS, WIDE_SPANS, known_marks, rise_by_words, some_function, square

PLAIN, STRONG = (NIL, ONE), (ONE, (3, 1))
TINY = Fraction(1, 10 ** 300)
CLOSED = [span for span in SPANS + WIDE_SPANS if span[1] is not None]


def method_of(*rows):
    return tuple(row(*each) for each in rows)


def random_method(random, count):
    return tuple(tuple(random_fraction(random, 3) for _ in range(at + 1)) for at in range(count))


def random_weights(random, count, share=0.5):
    """Weights for a method of so many rows, balanced or not."""
    places = range(count + 2)
    return tuple((i, j, pair(Fraction(random.randint(1, 5), random.randint(1, 5))))
                 for i in places for j in places if i != j and random.random() < share)


def balanced_weights(random, count):
    """Some of the way from z over places to the last one, and rounds that change no value."""
    numbers = {}

    def led(way, number):
        for i, j in zip(way, way[1:]):
            numbers[i, j] = numbers.get((i, j), 0) + number

    middle = list(range(count))
    shares = [Fraction(random.randint(1, 4)) for _ in range(3)]
    for share in shares:
        # From z, with the index N + 1, down to the last place, with the index N.
        led([count + 1, *random.sample(middle, random.randint(0, count)), count], share / sum(shares))
    if random.random() < 0.6:
        ends = random.sample(range(count + 2), 2)
        led([*ends, ends[0]], Fraction(random.randint(1, 3), 4))
    return tuple((i, j, pair(number)) for (i, j), number in sorted(numbers.items()))


def are_balanced(weights, count):
    sums = [Fraction(0)] * (count + 2)
    for i, j, part in weights:
        sums[i] += number(part)
        sums[j] -= number(part)
    return sums == [*[0] * count, -1, 1]


def run_from(method, start, slopes, rest, values):
    """Marks that go as the method goes by these slopes; the last one is at the rest."""
    places = [parts(start)]
    for line in method:
        place = places[0]
        for factor, slope in zip(line, slopes):
            place = less(place, [number(factor) * part for part in parts(slope)])
        places.append(place)
    marks = [(row(*place), slope, pair(value)) for place, slope, value in zip(places, slopes, values)]
    return (*marks, (rest, nought(len(rest)), pair(values[-1])))


def run_of_function(at, method, start, rest):
    """The run of a function, told as what leads places to its values and slopes, with a least place."""
    places, marks = [parts(start)], []
    for line in (*method, ()):
        value, slope = at(places[-1])
        marks.append((row(*places[-1]), row(*slope), pair(value)))
        if line:
            place = places[0]
            for factor, mark in zip(line, marks):
                place = less(place, [number(factor) * part for part in parts(mark[1])])
            places.append(place)
    return (*marks, (rest, nought(len(rest)), pair(at(parts(rest))[0])))


def value_of_form(table, rows):
    """The sum of the products of the rows, each two times their number of the form."""
    return sum(number(part) * dot(one, other) for line, one in zip(table, rows) for part, other in zip(line, rows))


def quadratic(scales, rest):
    """The function with these stretches along the unknowns and this least place."""
    def at(place):
        way = less(place, rest)
        slope = [scale * part for scale, part in zip(scales, way)]
        return dot(slope, way) / 2, slope

    return at


class Methods(unittest.TestCase):
    def test_methods(self):
        for value in ((), ((HALF,),), ((HALF,), (LESS, TWO)), descent(ONE, 4), method_of((BIG,), (0, Fraction(1, BIG))),
                      ((NIL,),), tuple((NIL,) * at for at in (1, 2, 3, 4))):
            self.assertIs(is_method(value), True, value)
        for value in (((HALF,),) * 5, tuple((NIL,) * at for at in (1, 2, 3, 4, 5)), ((),), ((HALF, HALF),),
                      [(HALF,)], ([HALF],), ((HALF,), (HALF,)), (((2, 2),),), ((1,),), None, 0, "", ((HALF,), None)):
            self.assertIs(is_method(value), False, value)
        self.assertIs(is_method(value=()), True)


class Forms(unittest.TestCase):
    def check_shape(self, table, count):
        self.assertIsInstance(table, tuple)
        self.assertEqual(len(table), count + 2)
        for line in table:
            self.assertIsInstance(line, tuple)
            self.assertEqual(len(line), count + 2)
            for part in line:
                self.assertEqual(part, pair(number(part)))
        self.assertEqual(table, tuple(zip(*table)))

    def test_by_hand(self):
        self.assertEqual(form(PLAIN, descent(ONE, 1), (1, 6), descent_weights(1)), (
            ((1, 6), (-1, 4), (-1, 4)), ((-1, 4), (1, 2), (1, 4)), ((-1, 4), (1, 4), (1, 2))))
        # x_0 alone: f(z) from f(x_0): - g . (x_0 - z) + |g|^2 / 2.
        self.assertEqual(form(PLAIN, (), HALF, ((1, 0, ONE),)), (((1, 2), (-1, 2)), ((-1, 2), (1, 2))))
        self.assertEqual(form(PLAIN, (), HALF, ((1, 0, (3, 1)),)), (((1, 2), (-3, 2)), ((-3, 2), (3, 2))))
        # The other way, nothing but |g|^2 / 2 is left.
        self.assertEqual(form(PLAIN, (), NIL, ((0, 1, ONE),)), ((NIL, NIL), (NIL, HALF)))
        self.assertEqual(form(STRONG, (), NIL, ((0, 1, ONE),)), (((3, 4), (-1, 4)), ((-1, 4), (1, 4))))
        self.assertEqual(form(PLAIN, (), TWO, ()), ((TWO, NIL), (NIL, NIL)))
        self.assertEqual(form(weights=(), share=NIL, method=((ONE,),), span=PLAIN), ((NIL,) * 3,) * 3)

    def test_by_the_words(self):
        """The form at any rows is the share and the rises at the places that the method makes of these rows."""
        random = Random(1)
        for _ in range(250):
            span, count, many = random.choice(CLOSED), random.randint(0, 4), random.randint(1, 3)
            method = random_method(random, count)
            weights = random_weights(random, count, random.choice((0, 0.2, 0.9)))
            share = pair(Fraction(random.randint(0, 5), 3))
            table = form(span, method, share, weights)
            self.check_shape(table, count)
            rest, start = random_row(random, many), random_row(random, many)
            slopes = [random_row(random, many) for _ in range(count + 1)]
            marks = run_from(method, start, slopes, rest, [0] * (count + 2))
            way = less(parts(start), parts(rest))
            wanted = number(share) * square(way)
            wanted += sum(number(part) * rise_by_words(span, marks[i], marks[j]) for i, j, part in weights)
            self.assertEqual(value_of_form(table, [way, *map(parts, slopes)]), wanted, (span, method, weights))

    def test_large_numbers(self):
        random = Random(2)
        method = method_of((Fraction(BIG, 7),), (1, Fraction(1, BIG)), (BIG, 0, -BIG))
        weights = tuple((i, j, pair(Fraction(i + 1, BIG + j))) for i in range(5) for j in range(5) if i != j)
        for span in CLOSED:
            table = form(span, method, (BIG, BIG - 1), weights)
            self.check_shape(table, 3)
            slopes = [random_row(random, 2) for _ in range(4)]
            start, rest = row(BIG, 1), row(0, Fraction(1, BIG))
            marks = run_from(method, start, slopes, rest, [0] * 5)
            way = less(parts(start), parts(rest))
            wanted = Fraction(BIG, BIG - 1) * square(way)
            wanted += sum(number(part) * rise_by_words(span, marks[i], marks[j]) for i, j, part in weights)
            self.assertEqual(value_of_form(table, [way, *map(parts, slopes)]), wanted)


class ShownRates(unittest.TestCase):
    def test_by_hand(self):
        for share, weights, wanted in (
                ((1, 6), descent_weights(1), True), ((1, 7), descent_weights(1), False), ((1, 6), (), False),
                (HALF, descent_weights(1), True), (pair(Fraction(1, 6) - TINY), descent_weights(1), False),
                ((1, 6), descent_weights(1)[:2], False), (HALF, ((2, 1, ONE),), False),
                ((BIG, 1), ((2, 1, ONE),), False), (ONE, ((2, 1, TWO),), False),
                (ONE, ((1, 2, ONE),), False), (ONE, ((0, 1, HALF), (2, 1, ONE)), False), (HALF, (), False)):
            self.assertIs(shows_rate(PLAIN, descent(ONE, 1), share, weights), wanted, (share, weights))
        self.assertIs(shows_rate(weights=((1, 0, ONE),), share=HALF, method=(), span=PLAIN), True)
        self.assertIs(shows_rate(PLAIN, (), pair(Fraction(1, 2) - TINY), ((1, 0, ONE),)), False)
        # With a round they are balanced, too, but show less.
        self.assertIs(shows_rate(PLAIN, (), (2, 3), ((0, 1, ONE), (1, 0, TWO))), True)
        self.assertIs(shows_rate(PLAIN, (), pair(Fraction(2, 3) - TINY), ((0, 1, ONE), (1, 0, TWO))), False)

    def test_a_method_that_stays(self):
        for count in range(5):
            method = tuple((NIL,) * (at + 1) for at in range(count))
            self.assertIs(shows_rate(PLAIN, method, HALF, ((count + 1, count, ONE),)), True)
            self.assertIs(shows_rate(PLAIN, method, pair(Fraction(1, 2) - TINY), ((count + 1, count, ONE),)), False)

    def test_balance_of_all_indexes(self):
        """Twice as much of one of the weights, or without it, the same share of all of them: no longer balanced."""
        for count in range(5):
            method, weights = descent(HALF, count), descent_weights(count)
            share = (3, 1)
            self.assertIs(shows_rate(PLAIN, method, share, weights), True)
            for at, (i, j, part) in enumerate(weights):
                more = pair(2 * number(part))
                for changed in ((*weights[:at], (i, j, more), *weights[at + 1:]), weights[:at] + weights[at + 1:]):
                    self.assertIs(shows_rate(PLAIN, method, share, changed), False)
            doubled = tuple((i, j, pair(number(part) * 2)) for i, j, part in weights)
            self.assertIs(shows_rate(PLAIN, method, share, doubled), False)

    def test_by_the_words(self):
        """What is shown has no row below 0 and is balanced; balanced weights that are not shown have such a row."""
        random = Random(3)
        seen = set()
        for at in range(200):
            count = random.randint(0, 3)
            span = random.choice(CLOSED[:5])
            method = descent(pair(1 / number(span[1])), count) if at % 2 else random_method(random, count)
            weights = balanced_weights(random, count) if at % 5 else random_weights(random, count)
            share = pair(Fraction(random.randint(0, 6), 2) * number(span[1]))
            found = shows_rate(span, method, share, weights)
            balanced = are_balanced(weights, count)
            seen.add((found, balanced))
            table = form(span, method, share, weights)
            rows = [[[Fraction(random.randint(-2, 2))] for _ in range(count + 2)] for _ in range(60)]
            values = [value_of_form(table, each) for each in rows]
            if found:
                self.assertTrue(balanced)
                self.assertGreaterEqual(min(values), 0)
            elif balanced:
                # Cutting unknown after unknown off, as it is done by hand.
                self.assertTrue(falls_somewhere([[number(part) for part in line] for line in table]))
        self.assertEqual(seen, {(True, True), (False, True), (False, False)})

    def test_what_is_shown_holds(self):
        """Runs of functions known throughout never go beyond what is shown, and never break it."""
        random = Random(4)
        shown = 0
        for at in range(300):
            count, many = random.randint(0, 3), random.randint(1, 3)
            span = random.choice(CLOSED[:6])
            most = number(span[1])
            method = descent(pair(Fraction(random.randint(1, 4), 4) / most), count) if at % 3 else \
                random_method(random, count)
            weights = descent_weights(count) if at % 3 == 1 else balanced_weights(random, count)
            share = pair(most * Fraction(random.randint(1, 8), 8))
            rest = random_row(random, many)
            low = number(span[0])
            scales = [low + (most - low) * Fraction(random.randint(0, 2), 2) for _ in range(many)]
            run = run_of_function(quadratic(scales, parts(rest)), method, random_row(random, many), rest)
            self.assertIs(is_run(method, run), True)
            self.assertIsNone(misfit_of_marks(span, run))
            way = less(parts(run[0][0]), parts(rest))
            beyond = number(run[-2][2]) - number(run[-1][2]) > number(share) * square(way)
            self.assertIs(breaks_rate(span, method, share, run), beyond)
            if shows_rate(span, method, share, weights):
                shown += 1
                self.assertFalse(beyond)
        self.assertGreater(shown, 30)

    def test_large_numbers(self):
        size, step = pair(Fraction(BIG, 7)), pair(Fraction(7, BIG) * Fraction(BIG - 1, BIG))
        for count in range(5):
            share = descent_share(size, step, count)
            method, weights = descent(step, count), descent_weights(count)
            self.assertIs(shows_rate((NIL, size), method, share, weights), True)
            self.assertIs(shows_rate((NIL, size), method, pair(number(share) * (1 - TINY)), weights), False)


def falls_somewhere(table):
    """Whether the form is below 0 somewhere: the first unknown is cut off where it makes the form least."""
    if not table:
        return False
    pivot, *others = table[0]
    if pivot < 0:
        return True
    if pivot == 0:
        return any(others) or falls_somewhere([line[1:] for line in table[1:]])
    return falls_somewhere([[part - line[0] * over / pivot for part, over in zip(line[1:], others)]
                            for line in table[1:]])


class Runs(unittest.TestCase):
    def setUp(self):
        self.method = method_of((Fraction(1, 2),), (Fraction(1, 3), 2))
        slopes = [row(1, 2), row(-1, 0), row(Fraction(1, 2), 5)]
        self.run_of_it = run_from(self.method, row(4, 4), slopes, row(1, 1), (9, 8, 7, 0))

    def test_a_run(self):
        self.assertEqual([mark[0] for mark in self.run_of_it[:3]],
                         [row(4, 4), row(Fraction(7, 2), 3), row(4 - Fraction(1, 3) + 2, 4 - Fraction(2, 3))])
        self.assertIs(is_run(self.method, self.run_of_it), True)
        self.assertIs(is_run(marks=self.run_of_it, method=self.method), True)

    def moved(self, at, part, way):
        mark = list(self.run_of_it[at])
        mark[part] = row(*[number(each) + by for each, by in zip(mark[part], way)])
        return (*self.run_of_it[:at], tuple(mark), *self.run_of_it[at + 1:])

    def test_moved_places_and_slopes(self):
        for at in range(4):
            for way in ((0, TINY), (-TINY, 0), (1, 1)):
                # Where z is, is free, and where the run starts: but then the others are not where it goes.
                self.assertIs(is_run(self.method, self.moved(at, 0, way)), at == 3, (at, way))
                # The slope of the last place is not used, those before it are; that at z is noughts.
                self.assertIs(is_run(self.method, self.moved(at, 1, way)), at == 2, (at, way))

    def test_values_are_free(self):
        free = tuple((x, g, pair(BIG)) for x, g, _ in self.run_of_it)
        self.assertIs(is_run(self.method, free), True)

    def test_a_mark_more_or_less(self):
        marks = self.run_of_it
        for wrong in (marks[:3], marks[1:], marks[:2] + marks[3:], (*marks, marks[3]), marks[:3] * 2, marks[:1],
                      (*marks[:3], marks[2], marks[3])):
            self.assertIs(is_run(self.method, wrong), False)
        self.assertIs(is_run((), (marks[0], marks[3])), True)
        self.assertIs(is_run((), (marks[0],)), False)
        self.assertIs(is_run((), (marks[0], marks[1])), False)
        self.assertIs(is_run((), (marks[3],) * 3), False)

    def test_of_functions(self):
        random = Random(5)
        for _ in range(100):
            count, many = random.randint(0, 4), random.randint(1, 3)
            method, rest = random_method(random, count), random_row(random, many)
            run = run_of_function(quadratic([Fraction(2)] * many, parts(rest)), method, random_row(random, many), rest)
            self.assertEqual(len(run), count + 2)
            self.assertIs(is_run(method, run), True)
            if count and run[0][1] != nought(many) and method[-1][0] != NIL:
                changed = (*method[:-1], (pair(number(method[-1][0]) + TINY), *method[-1][1:]))
                self.assertIs(is_run(changed, run), False)

    def test_wrong_marks(self):
        for marks, index in ((self.run_of_it * 2, 6), ((), None), ((*self.run_of_it, (ONE, ONE, ONE)), 4)):
            for call in (lambda: is_run(self.method, marks), lambda: breaks_rate(PLAIN, self.method, NIL, marks)):
                with self.assertRaises(InvalidMarks) as caught:
                    call()
                self.assertEqual(caught.exception.index, index)


class BrokenRates(unittest.TestCase):
    def test_by_hand(self):
        tight = descent_marks(ONE, ONE, 1, (3, 1))
        for share, wanted in (((1, 7), True), ((1, 6), False), (pair(Fraction(1, 6) - TINY), True), (NIL, True),
                              (pair(Fraction(1, 6) + TINY), False), (TWO, False)):
            self.assertIs(breaks_rate(PLAIN, descent(ONE, 1), share, tight), wanted)
        self.assertIs(breaks_rate(marks=tight, share=NIL, method=descent(ONE, 1), span=PLAIN), True)
        # The same function, but a wider span; and a narrower one, which it does not have.
        self.assertIs(breaks_rate((NIL, TWO), descent(ONE, 1), (1, 7), tight), True)
        self.assertIs(breaks_rate((NIL, HALF), descent(ONE, 1), (1, 7), tight), False)
        self.assertIs(breaks_rate(((1, 10), ONE), descent(ONE, 1), (1, 7), tight), False)
        # Another method.
        self.assertIs(breaks_rate(PLAIN, descent(HALF, 1), (1, 7), tight), False)
        self.assertIs(breaks_rate(PLAIN, (), (1, 7), tight), False)

    def test_changed_runs(self):
        method, share = descent(ONE, 2), pair(Fraction(1, 10) - Fraction(1, 10 ** 6))
        tight = descent_marks(ONE, ONE, 2, ONE)
        self.assertIs(breaks_rate(PLAIN, method, share, tight), True)
        for at in range(4):
            x, g, value = tight[at]
            for changed in ((row(number(x[0]) + TINY), g, value), (x, row(number(g[0]) + TINY), value),
                            (x, g, pair(number(value) - TINY)), (x, g, pair(number(value) + TINY))):
                marks = (*tight[:at], changed, *tight[at + 1:])
                if misfit_of_marks(PLAIN, marks) is None and is_run(method, marks):
                    self.assertIs(breaks_rate(PLAIN, method, share, marks), True)
                else:
                    self.assertIs(breaks_rate(PLAIN, method, share, marks), False)
        for marks in (tight[:3], tight[1:], (*tight, tight[3]), tight[:2] + tight[3:]):
            self.assertIs(breaks_rate(PLAIN, method, NIL, marks), False)

    def test_misfits(self):
        # They are a run, and the value falls by little, but no function with the span has them.
        marks = known_marks((1, 1, 10), (0, 0, 0))
        self.assertIs(is_run((), marks), True)
        self.assertIs(breaks_rate(PLAIN, (), ONE, marks), False)
        self.assertIs(breaks_rate(PLAIN, (), ONE, known_marks((1, 1, Fraction(1, 2)), (0, 0, 0))), False)
        self.assertIs(breaks_rate(PLAIN, (), (1, 3), known_marks((1, 1, Fraction(1, 2)), (0, 0, 0))), True)
        self.assertIs(breaks_rate(PLAIN, (), HALF, known_marks((1, 1, Fraction(1, 2)), (0, 0, 0))), False)
        self.assertIs(breaks_rate(PLAIN, (), NIL, known_marks((0, 0, 3), (0, 0, 3))), False)

    def test_runs_of_functions(self):
        random = Random(6)
        seen = set()
        for _ in range(200):
            span, count, many = random.choice(CLOSED), random.randint(0, 4), random.randint(1, 3)
            function = some_function(random, span, many)
            rest = random_row(random, many)
            _, tilt = function(parts(rest))

            def tilted(place):
                """The function less its slope at the rest, which so is a least place."""
                value, slope = function(place)
                return value - dot(tilt, place), less(slope, tilt)

            method = random_method(random, count)
            run = run_of_function(tilted, method, random_row(random, many), rest)
            self.assertIsNone(misfit_of_marks(span, run))
            self.assertIs(is_run(method, run), True)
            way = less(parts(run[0][0]), parts(rest))
            for share in (NIL, ONE, pair(number(span[1]) / 2)):
                above = number(run[-2][2]) - number(run[-1][2]) > number(share) * square(way)
                self.assertIs(breaks_rate(span, method, share, run), above)
                seen.add((share in (NIL, ONE), above))
        self.assertGreaterEqual(len(seen), 3)

    def test_large_numbers(self):
        far = (BIG, 7)
        size, step = pair(Fraction(BIG, 3)), pair(Fraction(3, BIG))
        for count in range(5):
            marks = descent_marks(size, step, count, far)
            share = descent_share(size, step, count)
            method, span = descent(step, count), (NIL, size)
            self.assertIs(breaks_rate(span, method, share, marks), False)
            self.assertIs(breaks_rate(span, method, pair(number(share) * (1 - TINY)), marks), True)


class PlainDescents(unittest.TestCase):
    STEPS = ((ONE, ONE), (ONE, HALF), (TWO, HALF), (TWO, (1, 3)), ((3, 7), (7, 3)), ((3, 7), (1, BIG)),
             ((BIG, 1), (1, BIG)), ((BIG, 1), (1, BIG + 1)), ((1, BIG), (BIG, 1)))

    def test_descent(self):
        for count in range(5):
            self.assertEqual(descent(HALF, count), tuple((HALF,) * (at + 1) for at in range(count)))
        self.assertEqual(descent(number=0, step=TWO), ())
        self.assertEqual(descent((BIG, 1), 1), (((BIG, 1),),))
        for wrong in (NIL, LESS, (2, 2), None):
            with self.assertRaises(InvalidStep) as caught:
                descent(wrong, 9)
            self.assertIs(caught.exception.given, wrong)

    def test_share(self):
        for size, step, count, wanted in ((ONE, ONE, 1, (1, 6)), (TWO, HALF, 3, (1, 7)), (ONE, ONE, 0, HALF),
                                          (ONE, ONE, 4, (1, 18)), ((3, 1), (1, 3), 2, (3, 10)), (ONE, HALF, 1, (1, 4)),
                                          ((3, 1), (1, 7), 0, (3, 2))):
            self.assertEqual(descent_share(size, step, count), wanted)
        for size, step in self.STEPS:
            for count in range(5):
                most, by = number(size), number(step)
                self.assertEqual(descent_share(number=count, step=step, size=size),
                                 pair(most / (4 * count * by * most + 2)))

    def test_steps_up_to_one_over_the_size(self):
        for size in (ONE, (3, 7), (BIG, 2), (1, BIG)):
            just = pair(1 / number(size))
            more = pair(1 / number(size) + TINY / BIG)
            self.assertIsNotNone(descent_share(size, just, 2))
            self.assertIsNotNone(descent_marks(size, just, 2, ONE))
            for call in (lambda: descent_share(size, more, 2), lambda: descent_marks(size, more, 2, ONE)):
                with self.assertRaises(InvalidStep) as caught:
                    call()
                self.assertIs(caught.exception.given, more)

    def test_weights(self):
        self.assertEqual(descent_weights(0), ((1, 0, ONE),))
        self.assertEqual(descent_weights(1), ((0, 1, HALF), (2, 0, HALF), (2, 1, HALF)))
        self.assertEqual(descent_weights(2), (
            (0, 1, (1, 4)), (1, 2, (2, 3)), (3, 0, (1, 4)), (3, 1, (5, 12)), (3, 2, (1, 3))))
        for count in range(5):
            weights = descent_weights(number=count)
            self.assertEqual(len(weights), 2 * count + 1)
            self.assertEqual(list(weights), sorted(weights, key=lambda weight: weight[:2]))
            chain, others = [(at - 1, at) for at in range(1, count + 1)], [(count + 1, at) for at in range(count + 1)]
            self.assertEqual([weight[:2] for weight in weights], chain + others)
            self.assertTrue(all(number(part) > 0 for _, _, part in weights))
            for at in range(1, count + 1):
                self.assertEqual(number(weights[at - 1][2]), Fraction(at, 2 * count + 1 - at))
            self.assertTrue(are_balanced(weights, count))

    def test_the_share_is_shown_and_no_lesser_one(self):
        for size, step in self.STEPS:
            for count in range(5):
                span, method, share = (NIL, size), descent(step, count), descent_share(size, step, count)
                lesser = pair(number(share) * (1 - TINY))
                self.assertIs(shows_rate(span, method, share, descent_weights(count)), True)
                self.assertIs(shows_rate(span, method, lesser, descent_weights(count)), False)
                for far in (ONE, (1, BIG), (BIG, 3)):
                    marks = descent_marks(size, step, count, far)
                    self.assertIs(breaks_rate(span, method, share, marks), False)
                    self.assertIs(breaks_rate(span, method, lesser, marks), True)

    def test_marks(self):
        self.assertEqual(descent_marks(ONE, ONE, 1, (3, 1)), known_marks(
            (3, 1, Fraction(5, 2)), (2, 1, Fraction(3, 2)), (0, 0, 0)))
        self.assertEqual(descent_marks(far=TWO, number=0, step=ONE, size=ONE), known_marks((2, 2, 2), (0, 0, 0)))
        for size, step in self.STEPS:
            for count in range(5):
                far = Fraction(5, 3)
                marks = descent_marks(size, step, count, pair(far))
                most, by = number(size), number(step)
                edge = far / (2 * count * by * most + 1)
                self.assertEqual(len(marks), count + 2)
                self.assertEqual(marks[-1], known_marks((0, 0, 0))[0])
                for at, (x, g, value) in enumerate(marks[:-1]):
                    place = number(x[0])
                    self.assertEqual(place, far - at * by * most * edge)
                    self.assertGreaterEqual(place, edge)
                    self.assertEqual(g, row(most * edge))
                    self.assertEqual(number(value), most * edge * place - most * edge ** 2 / 2)
                self.assertIs(is_run(descent(step, count), marks), True)
                self.assertIsNone(misfit_of_marks((NIL, size), marks))
                share = number(descent_share(size, step, count))
                self.assertEqual(number(marks[-2][2]), share * far ** 2)


class WrongArguments(unittest.TestCase):
    def test_spans_without_an_upper_number(self):
        for call in (lambda: form((NIL, None), (), NIL, ()), lambda: shows_rate((NIL, None), None, NIL, ()),
                     lambda: breaks_rate((NIL, None), (), LESS, ())):
            with self.assertRaises(InvalidSpan) as caught:
                call()
            self.assertEqual(caught.exception.given, (NIL, None))

    def test_shares(self):
        for wrong in (LESS, (2, 2), 1, None, (-1, BIG)):
            for call in (lambda: form(PLAIN, (), wrong, None), lambda: breaks_rate(PLAIN, (), wrong, None)):
                with self.assertRaises(InvalidShare) as caught:
                    call()
                self.assertIs(caught.exception.given, wrong)
        self.assertIs(shows_rate(PLAIN, (), NIL, ((1, 0, ONE),)), False)

    def test_weights_for_the_method(self):
        for count in range(5):
            method, last = descent(ONE, count), count + 1
            self.assertEqual(len(form(PLAIN, method, NIL, ((last, 0, ONE),))), count + 2)
            self.assertEqual(len(form(PLAIN, method, NIL, ((0, last, ONE), (last, count, ONE)))), count + 2)
            for weights, index in ((((last + 1, 0, ONE),), 0), (((0, last, ONE), (0, last + 1, ONE)), 1),
                                   (((last, 0, ONE), (0, last, ONE)), 1), (((last, 0, ONE), (last, 0, TWO)), 1),
                                   (((last, last, ONE),), 0), (((0, last, ONE), (last, -1, ONE)), 1), ([], None),
                                   (((0, last, NIL),), 0), (((0, last, ONE), (last, 0, LESS)), 1)):
                for call in (form, shows_rate):
                    with self.assertRaises(InvalidWeights) as caught:
                        call(PLAIN, method, NIL, weights)
                    self.assertEqual(caught.exception.index, index, (count, weights))


if __name__ == "__main__":
    unittest.main()
