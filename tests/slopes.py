"""What the tests of functions and rates use: functions known throughout, and the words of the document as sums."""

from fractions import Fraction
from itertools import permutations
from random import Random

from tests.helpers import NIL, number, pair
from tests.known import BIG, dot, less, parts, row

SPANS = tuple((pair(low), None if high is None else pair(high)) for low, high in (
    (0, 1), (0, 2), (0, None), (1, 3), (Fraction(1, 2), None), (Fraction(1, 2), Fraction(2, 3)), (2, 7),
    (0, Fraction(1, 5)), (3, None)))
# The lower and the upper number close together, far apart, and of many figures.
WIDE_SPANS = (
    ((BIG, 1), (BIG + 1, 1)), ((BIG, BIG + 1), (BIG + 1, BIG + 2)), ((1, BIG), (BIG, 1)), ((BIG, BIG - 1), None),
    (NIL, (1, BIG)))


def known_points(*pairs):
    """Points of pairs of numbers, for one unknown, or of tuples of numbers."""
    return tuple(tuple(row(*side) if isinstance(side, tuple) else row(side) for side in each) for each in pairs)


def known_marks(*triples):
    return tuple((*known_points(triple[:2])[0], pair(triple[2])) for triple in triples)


def with_values(points, values):
    return tuple((*point, pair(value)) for point, value in zip(points, values))


def square(way):
    return dot(way, way)


def rise_by_words(span, point, other):
    """The formula of [28]."""
    (x, g), (y, h) = ([parts(side) for side in each[:2]] for each in (point, other))
    low, high = span
    m = number(low)
    way, turn = less(x, y), less(g, h)
    if high is None:
        return dot(h, way) + m * square(way) / 2
    most = number(high)
    bent = square(turn) / most + m * square(way) - 2 * (m / most) * dot(turn, way)
    return dot(h, way) + bent / (2 * (1 - m / most))


def has_misfit(span, marks, i, j):
    return number(marks[i][2]) < number(marks[j][2]) + rise_by_words(span, marks[i], marks[j])


def least_misfit(span, marks):
    many = range(len(marks))
    return min([(i, j) for i in many for j in many if i != j and has_misfit(span, marks, i, j)], default=None)


def rise_table(span, points):
    return [[rise_by_words(span, point, other) for other in points] for point in points]


def round_sum(table, ring):
    return sum(table[to][start] for to, start in zip(ring, (*ring[1:], ring[0])))


def ring_sum(span, points, ring):
    """The sum of [29]: to i_0 from i_1, .., to i_(k-1) from i_0."""
    return round_sum(rise_table(span, points), ring)


def rings(span, points, sizes=None):
    """All rings, each once."""
    many, table = len(points), rise_table(span, points)
    return [ring for size in sizes or range(2, many + 1) for ring in permutations(range(many), size)
            if ring[0] == min(ring) and round_sum(table, ring) > 0]


def greatest_way(table, end, start):
    """The greatest sum of rises along ways without a point twice, from the one to the other."""
    between = [at for at in range(len(table)) if at not in (end, start)]
    ways = [(end, *way, start) for size in range(len(between) + 1) for way in permutations(between, size)]
    return max(sum(table[to][by] for to, by in zip(way, way[1:])) for way in ways)


def whirled_points(random, many, count, turn):
    """Points with the place, and `turn` times the place turned, as their slopes."""
    points = []
    for _ in range(count):
        place = [Fraction(random.randint(-3, 3)) for _ in range(many)]
        p, q, *others = place
        points.append((row(*place), row(p - turn * q, q + turn * p, *others)))
    return tuple(points)


def bent_line(random, span):
    """A function of one unknown with the span: (value, slope), its slopes rising by bends at -1, 0 and 1.

    With no upper number the slopes leap at the bends, and there are any between.
    """
    low = number(span[0])
    high = None if span[1] is None else number(span[1])
    start = Fraction(random.randint(-3, 3))
    leaps = [Fraction(random.randint(0, 2)) if high is None else 0 for _ in range(3)]
    rates = [low if high is None else low + (high - low) * Fraction(random.randint(0, 2), 2) for _ in range(4)]
    bends = [Fraction(bend) for bend in (-1, 0, 1)]

    def slope(x):
        found = start + rates[0] * min(x + 1, 0)
        for bend, leap, rate, stop in zip(bends, leaps, rates[1:], [*bends[1:], None]):
            if x == bend:
                return found + leap * Fraction(random.randint(0, 2), 2)
            if x > bend:
                found += leap + rate * ((x if stop is None else min(x, stop)) - bend)
        return found

    def value(x):
        found = start * (min(x, -1) + 1) + rates[0] * min(x + 1, 0) ** 2 / 2
        at = start
        for bend, leap, rate, stop in zip(bends, leaps, rates[1:], [*bends[1:], None]):
            if x > bend:
                way = (x if stop is None else min(x, stop)) - bend
                at += leap
                found += at * way + rate * way * way / 2
                at += rate * way
        return found

    return value, slope


def turned(vector):
    """The same vector after a turn of its first two numbers, by 3 / 5 and 4 / 5."""
    if len(vector) == 1:
        return list(vector)
    p, q, *others = vector
    return [(3 * p - 4 * q) / 5, (4 * p + 3 * q) / 5, *others]


def turned_back(vector):
    if len(vector) == 1:
        return list(vector)
    p, q, *others = vector
    return [(3 * p + 4 * q) / 5, (3 * q - 4 * p) / 5, *others]


def some_function(random, span, many):
    """A function of so many unknowns with the span, as what leads a place to its value and a slope there."""
    lines = [bent_line(random, span) for _ in range(many)]

    def at(place):
        inner = turned(place)
        slopes = [slope(part) for (_, slope), part in zip(lines, inner)]
        return sum(value(part) for (value, _), part in zip(lines, inner)), turned_back(slopes)

    return at


def marks_of_function(random, span, many, count):
    """Marks of a function with the span; most of its places are on a grid, so some are the same."""
    at = some_function(random, span, many)
    marks = []
    for _ in range(count):
        place = turned_back([Fraction(random.randint(-4, 4), 2) for _ in range(many)])
        value, slope = at(place)
        marks.append((row(*place), row(*slope), pair(value)))
    return tuple(marks)


def random_points(random, many, count, most=3):
    return tuple(
        tuple(row(*[random.randint(-most, most) for _ in range(many)]) for _ in range(2)) for _ in range(count))


def leaning_points(random, span, many, count):
    """Points of which many go together: slopes of a function, now and then moved or turned a little."""
    points = [list(mark[:2]) for mark in marks_of_function(random, span, many, count)]
    for point in points:
        if random.random() < 0.3:
            at = random.randrange(many)
            moved = [*parts(point[1])]
            moved[at] += Fraction(random.randint(-2, 2), random.choice((1, 2, 8)))
            point[1] = row(*moved)
    return tuple(tuple(point) for point in points)


def cases(count, seed, most=6, spans=SPANS):
    """Spans and points, of functions and of none."""
    random = Random(seed)
    for at in range(count):
        span, many, points = random.choice(spans), random.randint(1, 3), random.randint(1, most)
        if at % 3 == 0:
            yield span, random_points(random, many, points, 2)
        elif at % 3 == 1:
            yield span, leaning_points(random, span, many, points)
        else:
            yield span, tuple(mark[:2] for mark in marks_of_function(random, span, many, points))
