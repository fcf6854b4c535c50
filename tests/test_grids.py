"""Systems, forms and their roots in whole numbers, which the tables and the data go by."""

import unittest
from fractions import Fraction
from itertools import product
from random import Random

from bringnear.grids import falling_row, numbers_about, root_numbers, solved
from tests.test_tables import determinant, is_nowhere_below


def random_form(random, size, most=3):
    rows = [[random.randint(-most, most) for _ in range(size)] for _ in range(size)]
    return [[rows[min(at, by)][max(at, by)] for by in range(size)] for at in range(size)]


def square_form(random, size, rank):
    """A form nowhere below 0, mostly with rows at which it is 0."""
    rows = [[random.randint(-2, 2) for _ in range(size)] for _ in range(rank)]
    return [[sum(row[at] * row[by] for row in rows) for by in range(size)] for at in range(size)]


def value_at(form, row):
    return sum(row[at] * row[by] * part for at, line in enumerate(form) for by, part in enumerate(line))


class Systems(unittest.TestCase):
    def test_random(self):
        random = Random(1)
        for _ in range(400):
            size, sides = random.randint(0, 4), random.randint(1, 3)
            rows = [[random.randint(-2, 2) for _ in range(size + sides)] for _ in range(size)]
            found = solved(rows)
            whole = determinant([row[:size] for row in rows])
            self.assertEqual(found is None, whole == 0, rows)
            if found is None:
                continue
            bottom, told = found
            self.assertEqual(bottom, abs(whole))
            for row in rows:
                for at in range(sides):
                    total = sum(number * told[by][at] for by, number in enumerate(row[:size]))
                    self.assertEqual(total, bottom * row[size + at])


class Forms(unittest.TestCase):
    def check(self, form):
        found = falling_row(form)
        self.assertEqual(found is None, is_nowhere_below([[Fraction(part) for part in row] for row in form]), form)
        if found is not None:
            self.assertEqual(len(found), len(form))
            self.assertLess(value_at(form, found), 0, form)

    def test_all_small_ones(self):
        for numbers in product(range(-1, 3), repeat=3):
            a, b, c = numbers
            self.check([[a, b], [b, c]])
        for numbers in product((-1, 0, 1, 3), repeat=6):
            a, b, c, d, e, f = numbers
            if min(a, b, c) >= 0:
                self.check([[a, d, e], [d, b, f], [e, f, c]])

    def test_random(self):
        random = Random(2)
        seen = set()
        for _ in range(500):
            size = random.randint(1, 5)
            form = square_form(random, size, random.randint(0, size))
            if random.random() < 0.5:
                at, by = random.randrange(size), random.randrange(size)
                form[at][by] -= 1
                if at != by:
                    form[by][at] -= 1
            self.check(form)
            seen.add((size, falling_row(form) is None))
        self.assertEqual(len(seen), 10)


class Roots(unittest.TestCase):
    def test_numbers_of_the_polynomial(self):
        random = Random(3)
        for _ in range(100):
            size = random.randint(1, 4)
            form = random_form(random, size)
            numbers = root_numbers(form)
            self.assertEqual((len(numbers), numbers[0]), (size + 1, 1))
            for place in range(-2, 3):
                left = [[(place if at == by else 0) - part for by, part in enumerate(row)]
                        for at, row in enumerate(form)]
                value = sum(number * place ** (size - at) for at, number in enumerate(numbers))
                self.assertEqual(value, determinant(left))

    def test_about_a_place(self):
        self.assertEqual(numbers_about([1, -3, 2], 1), [1, -1, 0])
        self.assertEqual(numbers_about([1, -3, 2], 2), [1, 1, 0])
        self.assertEqual(numbers_about([1], 5), [1])
        self.assertEqual(numbers_about([1, -6, 11, -6], 3), [1, 3, 2, 0])
        self.assertEqual(numbers_about([1, -6, 11, -6], 10), [1, 24, 191, 504])


if __name__ == "__main__":
    unittest.main()
