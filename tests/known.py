"""What the tests of data and of rests use: data that fit, and what fractions of Python's own show of them."""

from fractions import Fraction
from random import Random

from tests.helpers import NIL, number, pair, random_fraction, value_at

CALM, FIRM, FAR, HALVED = (1, 0, -1), (2, 1, 0), (1, 2, 3), (4, 0, -1)
BIG = 10 ** 399 + 9


def row(*parts):
    return tuple(pair(part) for part in parts)


def known(*pairs):
    """Data of pairs of numbers, for one unknown, or of tuples of numbers."""
    return tuple(tuple(row(*side) if isinstance(side, tuple) else row(side) for side in each) for each in pairs)


def parts(value):
    return [number(part) for part in value]


def dot(one, other):
    return sum((a * b for a, b in zip(one, other)), Fraction(0))


def less(one, other):
    return [a - b for a, b in zip(one, other)]


def square(one, other):
    way = less(one, other)
    return dot(way, way)


def fit(kind, one, other):
    """Whether two pairs are alike, or their gap is held, by the words of [23]."""
    if one == other:
        return True
    (x, u), (y, v) = (tuple(map(parts, each)) for each in (one, other))
    place, value = less(x, y), less(u, v)
    return value_at(kind, (dot(place, place), dot(place, value), dot(value, value))) <= 0


def least_misfit(kind, data):
    found = [(i, j) for j in range(len(data)) for i in range(j) if not fit(kind, data[i], data[j])]
    return min(found, default=None)


def balls(kind, data, place):
    """The c_i and the squares of the r_i of [23]."""
    a, b, d = kind
    centre, radius = Fraction(b, a), Fraction(b * b - a * d, a * a)
    z = parts(place)
    found = []
    for x, u in data:
        x, u = parts(x), parts(u)
        found.append(([q + centre * (p - o) for q, p, o in zip(u, z, x)], radius * square(z, x)))
    return found


def random_row(random, many, most=3):
    return tuple(random_fraction(random, most) for _ in range(many))


def random_data(random, kind, many, pairs):
    """Data that fit, grown one by one; many of them at the rim of the balls that those before leave them."""
    a, b, d = kind
    centre = Fraction(b, a)
    data = ((random_row(random, many), random_row(random, many)),)
    for _ in range(pairs - 1):
        for _ in range(60):
            x = random_row(random, many, 2)
            y, v = random.choice(data)
            if random.random() < 0.4:
                # At the rim of what (y, v) lets be, if the radius is a fraction.
                root = Fraction(int((b * b - a * d) ** 0.5), a)
                way = less(parts(x), parts(y))
                signs = [random.choice((1, -1)) for _ in range(many)]
                u = row(*[q + (centre + sign * root) * w for q, w, sign in zip(parts(v), way, signs)])
            else:
                u = row(*[q + centre * w + Fraction(random.randint(-2, 2), 2) for q, w in
                          zip(parts(v), less(parts(x), parts(y)))])
            if least_misfit(kind, (*data, (x, u))) is None:
                data = (*data, (x, u))
                break
    return data


def rim_pairs(kind, data):
    """Two of the data each that only just fit; between them all places are settled."""
    around = [(one, other) for one in data for other in data if one[0] != other[0]]
    return [(one, other) for one, other in around if is_at_rim(kind, one, other)]


def is_at_rim(kind, one, other):
    centre, reach = balls(kind, (one,), other[0])[0]
    return square(parts(other[1]), centre) == reach


def cases(kinds, count, seed):
    """Kinds, data that fit them, and places."""
    random = Random(seed)
    for _ in range(count):
        kind, many = random.choice(kinds), random.randint(1, 3)
        data = random_data(random, kind, many, random.randint(1, 6))
        place = random_row(random, many, 2)
        chance = random.random()
        if chance < 0.15:
            place = random.choice(data)[0]
        elif chance < 0.45:
            (x, _), (y, _) = random.choice(rim_pairs(kind, data) or [data[::len(data)] * 2])
            place = row(*[(p + 2 * q) / 3 for p, q in zip(parts(x), parts(y))])
        yield kind, data, place


def moved_by(value, often, way):
    return row(*[often * part + way for part in parts(value)])


def is_row(value, many):
    return (isinstance(value, tuple) and len(value) == many
            and all(isinstance(part, tuple) and pair(number(part)) == part for part in value))


def nought(many):
    return (NIL,) * many
