"""Claims that are so with their papers, for all words, and those that exclude them; and spoiled claims and papers."""

from fractions import Fraction

from bringnear.certificates import certify_blend, certify_bringing, certify_descent, certify_lot, certify_table
from bringnear.rates import descent, descent_marks, descent_share, descent_weights
from tests.helpers import HALF, LESS, NIL, ONE, TWO, pair
from tests.known import BIG, CALM, FAR, FIRM, HALVED, known, row
from tests.slopes import known_marks, known_points

TINY = Fraction(1, 10 ** 300)
SIDE, OPEN = (0, 1, 0), (-1, 0, 1)
# Alone it brings near by nothing, and lies in no closed kind.
UP = (SIDE,)
# b from 1 on and c up to 4, a being 1; and two kinds that hold no gap together.
STRONG, EMPTY = ((0, 1, 2), (1, 0, -4)), ((1, 0, -1), (0, 1, 4))
NEAR, CHAIN, MEAN = (NIL, ONE), (NIL, NIL, ONE), (HALF, NIL, HALF)
HALF_DISC, THIRDS, FIFTHS = (HALF, HALF), ((1, 3), (2, 3)), ((2, 5), (3, 5))
TURN, THIN = ((NIL, LESS), (ONE, NIL)), ((HALF, NIL), (NIL, NIL))
APART, ALONG = known((0, 1), (2, 1)), known((0, 1), (2, 3))
SPUN = known(((1, 0), (0, 1)), ((0, 1), (-1, 0)), ((-1, 0), (0, -1)), ((0, -1), (1, 0)))
FAST = known((0, 0), (1, 0), (2, 5))
WILD = (1, 2, 2)
PLAIN, ENDLESS = (NIL, ONE), (NIL, None)
GOING, BARRED = known_points((1, 1), (0, 0), (3, 2)), known_points((1, 0), (0, 1))
QUARTER = known_points(((1, 0), (0, 1)), ((0, 1), (-1, 0)), ((-1, 0), (0, -1)))
LITTLE = pair(Fraction(1, 6) - TINY)

# Each: a claim that is so, its paper, and a claim that excludes it.
SO = (
    (("lies in", STRONG, (1, 2, 0)), (), ("breaks", STRONG, (1, 2, 0))),
    (("lies in", EMPTY, (1, 0, -1)), (), ("breaks", EMPTY, (1, 0, -1))),
    (("lies in", (FIRM,), CALM), (), ("breaks", (FIRM,), CALM)),
    (("breaks", STRONG, (2, 3, 0)), certify_lot(STRONG, (2, 3, 0))[1], ("lies in", STRONG, (2, 3, 0))),
    (("breaks", (CALM,), FIRM), (ONE, NIL, ONE), ("lies in", (CALM,), FIRM)),
    (("breaks", UP, (1, 0, -BIG)), (NIL, NIL, ONE), ("lies in", UP, (1, 0, -BIG))),
    (("holds some", STRONG), (ONE, ONE, ONE), ("empty", STRONG)),
    (("holds some", STRONG), ((3, 7), (6, 7), (12, 7)), ("empty", STRONG)),
    (("holds some", (SIDE, (0, -1, 0))), (NIL, NIL, (5, 3)), ("empty", (SIDE, (0, -1, 0)))),
    (("empty", EMPTY), (), ("holds some", EMPTY)),
    (("empty", ((0, 1, 2 * BIG + 2), (1, 0, -BIG ** 2))), (), ("holds some", ((0, 1, 2 * BIG + 2), (1, 0, -BIG ** 2)))),
    (("brings", STRONG, (4, 1)), (), ("parts", STRONG, (4, 1))),
    (("brings", EMPTY, NIL), (), ("parts", EMPTY, NIL)),
    (("parts", STRONG, pair(4 - TINY)), certify_bringing(STRONG, pair(4 - TINY))[1],
     ("brings", STRONG, pair(4 - TINY))),
    (("parts", UP, ONE), (NIL, NIL, ONE), ("brings", UP, ONE)),
    (("parts", UP, (BIG, 1)), (ONE, NIL, (BIG + 1, 1)), ("brings", UP, (BIG, 1))),
    (("blend within", HALF_DISC, HALF_DISC, CHAIN, THIRDS), (), ("blend beyond", HALF_DISC, HALF_DISC, CHAIN, THIRDS)),
    (("blend within", NEAR, NEAR, MEAN, HALF_DISC), (), ("blend beyond", NEAR, NEAR, MEAN, HALF_DISC)),
    (("blend beyond", HALF_DISC, HALF_DISC, CHAIN, FIFTHS), (1, 3),
     ("blend within", HALF_DISC, HALF_DISC, CHAIN, FIFTHS)),
    (("blend beyond", NEAR, NEAR, MEAN, (HALF, pair(Fraction(1, 2) - TINY))), LESS,
     ("blend within", NEAR, NEAR, MEAN, (HALF, pair(Fraction(1, 2) - TINY)))),
    (("table keeps", TURN, SIDE), (), ("table breaks", TURN, SIDE)),
    (("table keeps", THIN, FIRM), (), ("table breaks", THIN, FIRM)),
    (("table breaks", TURN, FIRM), (ONE, NIL), ("table keeps", TURN, FIRM)),
    (("table breaks", ((NIL, NIL), (NIL, pair(1 + TINY))), CALM), (ONE, (BIG, 1)),
     ("table keeps", ((NIL, NIL), (NIL, pair(1 + TINY))), CALM)),
    (("some map", CALM, ALONG), (), ("no map", CALM, ALONG)),
    (("some map", FAR, known((1, 2)) * 6), (), ("no map", FAR, known((1, 2)) * 6)),
    (("no map", HALVED, ALONG), (0, 1), ("some map", HALVED, ALONG)),
    (("no map", HALVED, ALONG), (1, 0), ("some map", HALVED, ALONG)),
    (("no map", CALM, FAST), (2, 1), ("some map", CALM, FAST)),
    (("settled", CALM, ALONG, row(1), row(2)), (HALF, HALF), ("free", CALM, ALONG, row(1))),
    (("settled", CALM, ALONG, row(1), row(2)), (HALF, HALF), ("settled", CALM, ALONG, row(1), row(2 + TINY))),
    (("settled", CALM, SPUN, row(1, 0), row(0, 1)), (ONE, NIL, NIL, NIL), ("free", CALM, SPUN, row(1, 0))),
    (("settled", CALM, SPUN, row(0, 0), row(0, 0)), (HALF, NIL, HALF, NIL), ("free", CALM, SPUN, row(0, 0))),
    (("free", CALM, APART, row(1)), (row(2), row(0)), ("settled", CALM, APART, row(1), row(1))),
    (("free", FIRM, known(((0, 0), (0, 0))), row(1, 0)), (row(1, 0), row(Fraction(1, 2), Fraction(1, 2))),
     ("settled", FIRM, known(((0, 0), (0, 0))), row(1, 0), row(Fraction(1, 2), 0))),
    (("rests", CALM, APART), (), ("may drift", CALM, APART)),
    (("rests", CALM, SPUN[:3]), (), ("may drift", CALM, SPUN[:3])),
    (("rests", HALVED, known((0, 1))), (), ("may drift", HALVED, known((0, 1)))),
    (("may drift", CALM, ALONG), (row(3), row(1)), ("rests", CALM, ALONG)),
    (("may drift", CALM, ALONG), (row(Fraction(5, 2) + TINY), row(BIG)), ("rests", CALM, ALONG)),
    (("may drift", FAR, known((0, 1))), (row(-1), row(-2)), ("rests", FAR, known((0, 1)))),
    (("may drift", CALM, SPUN[:2]), (row(-2, 1), row(-1, 1)), ("rests", CALM, SPUN[:2])),
    (("function", PLAIN, GOING), row(Fraction(1, 2), 0, Fraction(7, 2)), ("no function", PLAIN, GOING)),
    (("function", ENDLESS, GOING[:2]), row(TINY, 0), ("no function", ENDLESS, GOING[:2])),
    (("no function", ENDLESS, BARRED), (0, 1), ("function", ENDLESS, BARRED)),
    (("no function", ENDLESS, QUARTER), (2, 1, 0), ("function", ENDLESS, QUARTER)),
    (("no function", ENDLESS, QUARTER), (0, 2, 1), ("function", ENDLESS, QUARTER)),
    (("rate", PLAIN, descent(ONE, 1), (1, 6)), descent_weights(1), ("no rate", PLAIN, descent(ONE, 1), (1, 6))),
    (("rate", PLAIN, (), HALF), ((1, 0, ONE),), ("no rate", PLAIN, (), HALF)),
    (("rate", PLAIN, descent(HALF, 4), (BIG, 1)), descent_weights(4), ("no rate", PLAIN, descent(HALF, 4), (BIG, 1))),
    (("no rate", PLAIN, descent(ONE, 1), LITTLE), descent_marks(ONE, ONE, 1, (3, 1)),
     ("rate", PLAIN, descent(ONE, 1), LITTLE)),
    (("no rate", (ONE, TWO), (), NIL), known_marks((1, 1, 1), (0, 0, Fraction(1, 2))), ("rate", (ONE, TWO), (), NIL)),
    (("no rate", PLAIN, descent(HALF, 4), (1, 11)), descent_marks(ONE, HALF, 4, (BIG, 3)),
     ("rate", PLAIN, descent(HALF, 4), (1, 11))),
)
WORDS = ("lies in", "breaks", "holds some", "empty", "brings", "parts", "blend within", "blend beyond", "table keeps",
         "table breaks", "some map", "no map", "settled", "free", "rests", "may drift", "function", "no function",
         "rate", "no rate")
# Words whose claims take no paper but ().
PLAIN_WORDS = ("lies in", "empty", "brings", "blend within", "table keeps", "some map", "rests")


def large_claims():
    """Claims and papers of certificates, of long numbers."""
    centre, radius = pair(Fraction(BIG, 7)), pair(Fraction(7, BIG))
    table = tuple(row(*[Fraction(at + by, BIG - at) for by in range(3)]) for at in range(3))
    return (
        certify_lot(((0, 1, 2 * BIG), (1, 0, -BIG ** 2 - 1)), (1, BIG, BIG ** 2 - 2)),
        certify_bringing(((1, 0, -BIG ** 2), (0, 1, 2 * BIG - 1)), pair(BIG ** 2 - TINY)),
        certify_blend((centre, radius), (radius, centre), (radius, ONE, centre), (centre, centre)),
        certify_table(table, (BIG, 0, -1)),
        certify_table(table, (1, 0, -BIG)),
        certify_descent((BIG, 7), (7, BIG + 1), 4),
        (("rate", (NIL, (BIG, 7)), descent((7, BIG), 3), descent_share((BIG, 7), (7, BIG), 3)), descent_weights(3)),
    )


def places_of(value, way=()):
    """The ways to all parts of nested tuples, the whole first."""
    yield way
    if isinstance(value, tuple):
        for at, part in enumerate(value):
            yield from places_of(part, (*way, at))


def part_at(value, way):
    for at in way:
        value = value[at]
    return value


def with_part(value, way, part):
    """Nested tuples with another part at a place."""
    if not way:
        return part
    at, *behind = way
    return (*value[:at], with_part(value[at], behind, part), *value[at + 1:])


def other_things(part):
    """Things that can stand nowhere in the place of this part."""
    if isinstance(part, tuple):
        return [list(part), dict(enumerate(part)), iter(part), 0, "tuple", True]
    if isinstance(part, str):
        return [part.upper(), part + " ", part[1:], part.encode(), "", None, 0, (part,), [part]]
    if part is None:
        return [0, False, (), "None", []]
    others = [None, str(part), (part,), [part], object(), part.to_bytes(900, "big", signed=True), (part, 1)]
    return others + ([bool(part)] if part in (0, 1) else [])
