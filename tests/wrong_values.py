"""Values that are wrong for each kind of parameter, each with the error and what this tells."""

from bringnear import errors
from tests.helpers import ANYTHING, HALF, LESS, NIL, ONE, TWO, nested

BIG = 10 ** 399 + 9
KIND, OTHER, GAP = (1, 0, -1), (0, 1, 0), (ONE, HALF, HALF)
LEAD = ((ONE, HALF), (TWO, LESS))
LOT = (KIND, OTHER)
DISC, NEAR, MIX = (HALF, TWO), (NIL, ONE), (HALF, LESS, TWO)
TABLE, SECOND = ((ONE, HALF), (NIL, TWO)), ((HALF, NIL), (LESS, NIL))
SPAN, METHOD = (HALF, (3, 1)), ((HALF,), (LESS, TWO))
POINTS = (((ONE, NIL), (TWO, NIL)), ((NIL, NIL), (NIL, NIL)), ((NIL, ONE), (NIL, ONE)))
MARKS = tuple((*point, value) for point, value in zip(POINTS, (ONE, NIL, HALF)))
WEIGHTS = ((0, 1, HALF), (1, 2, ONE), (3, 0, HALF), (3, 2, TWO))
# They fit KIND; what they leave open is a ball.
DATA = (((NIL, NIL), (NIL, NIL)), ((TWO, NIL), (NIL, ONE)), ((NIL, (4, 1)), (HALF, (3, 1))))

NO_FRACTIONS = (*ANYTHING, (2, 2), (0, 2), (0, 0), (1, 0), (1, -1), (-1, -1), (True, 1), (1, True), (False, 1),
                (1, None), ("1", 1), (1, "1"), [1, 2], (1, 2, 3), ((1, 2),), (BIG, 0), (2 * BIG, BIG), (1, -BIG),
                ((1, 1), (1, 1)), (1, (1,)), nested(14))
NO_SIZES = (*NO_FRACTIONS, NIL, LESS, (-1, BIG))
NO_SQUARES = (*NO_FRACTIONS, LESS, (-1, BIG))
NO_STEPS = (*NO_FRACTIONS, NIL)
NO_NUMBERS = (*(value for value in ANYTHING if value is True or value not in (1, 7)), 10 ** 6 + 1, BIG, -BIG, ONE, [3],
              (3,))
NO_KINDS = (*ANYTHING, (1, 1, 1), (1, 0, 0), (0, 0, 1), (0, 0, 0), (2, 0, -2), (0, 2, 4), (1, 0, 1), [1, 0, -1],
            (True, 0, -1), (1, False, -1), (1, 0, None), (1, 0, "-1"), (1, 0), (1, 0, -1, 0), (ONE, NIL, LESS),
            ((1, 0, -1),), (1, (0,), -1), LOT, (BIG, BIG, BIG), nested(14))
NO_GAPS = (*ANYTHING, (1, 0, 1), (NIL, NIL, NIL), (ONE, TWO, ONE), (LESS, NIL, LESS), (NIL, ONE, ONE),
           (ONE, ONE, NIL), (LESS, NIL, ONE), (ONE, NIL, LESS), [ONE, HALF, HALF], (ONE, HALF), (ONE, HALF, HALF, HALF),
           (ONE, (2, 4), HALF), (ONE, [1, 2], HALF), ((True, 1), HALF, HALF), (ONE, HALF, None), (ONE, (1, -2), HALF),
           (ONE, (1, 0), HALF), (ONE, 0, ONE), KIND, nested(14))
NO_LEADS = (*ANYTHING, [(ONE, HALF), (TWO, LESS)], ([ONE, HALF], (TWO, LESS)), ((ONE, HALF), [TWO, LESS]),
            ((ONE, HALF),), ((ONE, HALF), (TWO, LESS), (ONE, ONE)), ((ONE, HALF), (TWO,)),
            ((ONE, HALF), (TWO, LESS, ONE)),
            ((ONE, HALF), (TWO, ONE)), ((NIL, NIL), (ONE, ONE)), ((ONE, NIL), (ONE, NIL)), ((1, 0), (0, 1)),
            ((ONE, (2, 4)), (TWO, LESS)), ((ONE, (True, 2)), (TWO, LESS)), ((ONE, None), (TWO, LESS)),
            ((ONE, (1, 0)), (TWO, LESS)), ((ONE, HALF), "ab"), KIND, GAP, nested(14))


NO_SHARES = (*NO_SIZES, ONE, TWO, (BIG, 1), (BIG + 1, BIG))
NO_STEP_NUMBERS = (*(value for value in ANYTHING if isinstance(value, bool) or value not in (0, 1, 7)), 13, -1, BIG,
                   -BIG, ONE, NIL, [3], (3,), "3")
NO_DISCS = (*ANYTHING, (HALF, LESS), (HALF, (-1, BIG)), [HALF, ONE], (HALF,), (HALF, ONE, ONE), (HALF, (2, 2)),
            ((2, 4), ONE), (HALF, None), (None, ONE), (HALF, 1), (0, 1), (HALF, [1, 1]), (HALF, (True, 1)),
            ((1, 0), ONE), (HALF, (1, -1)), "ab", KIND, GAP, LEAD, (DISC,), nested(14))
NO_MIXES = (*ANYTHING, [HALF, ONE, ONE], (HALF, ONE), (HALF, ONE, ONE, ONE), (HALF, ONE, (2, 2)), (HALF, (0, 2), ONE),
            ((1, 0), ONE, ONE), (None, ONE, ONE), (HALF, [1, 1], ONE), (HALF, ONE, (True, 1)), (HALF, ONE, 1), KIND,
            LEAD, DISC, (MIX,), "abc", nested(14))
NO_TABLES = (*ANYTHING, [(ONE, HALF), (NIL, TWO)], ([ONE, HALF], (NIL, TWO)), ((ONE, HALF), [NIL, TWO]), ((ONE, HALF),),
             ((ONE, HALF), (NIL, TWO), (NIL, ONE)), ((ONE, HALF), (NIL,)), ((ONE, HALF), (NIL, TWO, ONE)), (ONE,), ONE,
             ((ONE, ONE, ONE), (ONE, ONE, ONE)), ((ONE,) * 5,) * 5, ((ONE,) * 60,) * 60, ((ONE, (2, 2)), (NIL, TWO)),
             ((ONE, (1, 0)), (NIL, TWO)), ((ONE, None), (NIL, TWO)), ((ONE, (True, 2)), (NIL, TWO)), ((1, 0), (0, 1)),
             ((ONE, HALF), "ab"), ((ONE, HALF), None), ((),), (((),),), ((1,),), KIND, GAP, DISC, MIX, (TABLE,),
             nested(14))
# Tables, but not of two rows.
OTHER_TABLES = (((ONE,),), ((ONE,) * 3,) * 3, ((NIL,) * 4,) * 4)


NO_SPANS = (*ANYTHING, (HALF, HALF), (HALF, NIL), (HALF, (1, 3)), (LESS, ONE), (LESS, None), ((-1, BIG), None),
            [HALF, ONE], [NIL, None], (NIL,), (NIL, ONE, ONE), (None, ONE), (None, None), (NIL, (2, 2)), ((0, 2), None),
            (NIL, (1, 0)), (NIL, True), (NIL, False), (NIL, 1), (0, ONE), (NIL, ()), (NIL, [1, 1]), ([0, 1], ONE),
            (NIL, (True, 1)), ((False, 1), ONE), (NIL, (1, -1)), (NIL, "L"), KIND, GAP, LEAD, (SPAN,), "ab",
            (ONE, (BIG, BIG + 1)), ((BIG + 1, BIG), (BIG + 1, BIG)), nested(14))
# Spans for functions, but not for rates.
OPEN_SPANS = ((NIL, None), (HALF, None), ((BIG, 1), None))
NO_METHODS = (*(value for value in ANYTHING if value != ()), [(HALF,), (LESS, TWO)], ([HALF], (LESS, TWO)),
              ((HALF,), [LESS, TWO]), ((HALF,), (LESS,)), ((HALF,), (LESS, TWO, ONE)), ((HALF, ONE),), ((),),
              ((HALF,), ()), ((HALF,), None), (HALF,), HALF, ((HALF,), (LESS, (2, 2))), ((HALF,), (LESS, (1, 0))),
              ((HALF,), ((True, 1), TWO)), ((HALF,), (None, TWO)), ((HALF,), (1, 2)), ((0,),), ("a", "ab"),
              ((HALF,), (HALF,) * 2, (HALF,) * 3, (HALF,) * 4, (HALF,) * 5),
              tuple((ONE,) * (at + 1) for at in range(60)), ((HALF,), HALF), ((LESS, TWO), (HALF,)), (((HALF,),),), KIND,
              (METHOD,), nested(14))


def with_given(error, values):
    return [(value, error, "given", value) for value in values]


def with_index(error, pairs):
    return [(value, error, "index", index) for value, index in pairs]


def no_lots():
    wrong = [(value, None) for value in ANYTHING if not isinstance(value, tuple)]
    wrong += [(value, 0) for value in ANYTHING if isinstance(value, tuple) and value != ()]
    wrong += [((), None), ([KIND], None), (KIND, 0), ((KIND, None), 1), ((KIND, (2, 0, -2)), 1),
              ((KIND, OTHER, [0, 1, 0], (1, 1, 1)), 2), ((KIND, OTHER, KIND, (1, 1)), 3), ((KIND,) * 5, 4),
              ((KIND,) * 4 + (None,), 4), ((KIND,) * 60, 4), ((KIND, True, KIND, KIND, KIND), 1),
              ((KIND, (True, 0, -1)), 1), ((KIND, (KIND,)), 1), ((None, None), 0)]
    return with_index(errors.InvalidLot, wrong)


def no_rows(length):
    """Wrong values for a row, which is to have a length, or one to four elements for None."""
    right = (1, 2, 3, 4) if length is None else (length,)
    wrong = [(value, None) for value in ANYTHING if not isinstance(value, tuple) or len(value) not in right]
    wrong += [(value, 0) for value in ANYTHING if isinstance(value, tuple) and len(value) in right
              and value not in (((1, 1), [1, 1]), ((1,), (2,)))]
    wrong += [([ONE] * right[-1], None), ((ONE,) * (right[-1] + 1), None), ((ONE,) * (right[0] - 1), None),
              ((None,) * (right[-1] + 1), None), ((ONE,) * 60, None)]
    for at in range(right[-1]):
        for bad in NO_FRACTIONS:
            row = [ONE] * right[-1]
            row[at] = bad
            wrong.append((tuple(row), at))
    wrong.append(((None,) * right[-1], 0))
    return with_index(errors.InvalidRow, wrong)


def no_pairs(pair):
    """Elements that are no pairs of rows beside this one, whose rows have two elements."""
    x, u = pair
    wrong = [[x, u], (x,), (x, u, x), (list(x), u), (x, list(u)), (x, u[:1]), (x[:1], u), ((), ()), (x, ()), (x, None),
             (None, u), (x + x, u), (x, u + x[:1]), (x + x, u + u), ((ONE,) * 60, (ONE,) * 60), (x, (ONE, (2, 2))),
             None, ((ONE, 1), u), ((NIL, (1, 0)), u), (x, ((True, 1), ONE)), (x, (None, ONE)), (ONE, ONE), x,
             pair + pair, (pair, pair), 7, "ab", ("ab", "cd"), {1: 2}, (x, {0: ONE, 1: ONE})]
    return wrong + list(ANYTHING)


def no_data():
    wrong = [(value, None) for value in ANYTHING if not isinstance(value, tuple)]
    wrong += [(value, 0) for value in ANYTHING if isinstance(value, tuple) and value != ()]
    wrong += [((), None), (list(DATA), None), (DATA[0], 0), ((DATA,), 0), (DATA * 2 + DATA, 6), (DATA * 2 + (None,), 6),
              (DATA * 20, 6), ((None,) * 60, 0), (DATA + (None,) + DATA, 3), (nested(14), 0)]
    for bad in no_pairs(DATA[0]):
        wrong += [((bad, *DATA), 0), ((DATA[0], bad, DATA[1], bad), 1), ((*DATA, *DATA[:2], bad), 5)]
    # Data for themselves, but longer or shorter than the first element.
    short, long = ((ONE,), (HALF,)), ((ONE,) * 3, (HALF,) * 3)
    wrong += [((short, DATA[0]), 1), ((DATA[0], short), 1), ((*DATA, long, short), 3), ((long, long, short), 2),
              ((short, short, long, None), 2), ((((ONE,) * 4, (ONE,) * 4),), 0)]
    return with_index(errors.InvalidData, wrong)


def no_items(error, items, no_item, short, long):
    """Wrong values for two or three items of two unknowns, beside what is no item and items of one and of three."""
    wrong = [(value, None) for value in ANYTHING if not isinstance(value, tuple)]
    wrong += [(value, 0) for value in ANYTHING if isinstance(value, tuple) and value != ()]
    wrong += [((), None), (list(items), None), (items[0], 0), ((items,), 0), ((items * 4)[:6] + (None,), 6),
              (items * 20, 6), ((None,) * 60, 0), ((*items, None, *items), len(items)), (nested(14), 0)]
    for bad in no_item:
        wrong += [((bad, *items), 0), ((items[0], bad, items[1], bad), 1), (((items * 4)[:5] + (bad,)), 5)]
    wrong += [((short, items[0]), 1), ((items[0], short), 1), ((items[1], items[0], long, short), 2),
              ((long, long, short), 2), ((short, short, long, None), 2)]
    return with_index(error, wrong)


def no_marks():
    x, u, value = MARKS[0]
    wrong = [(*pair, value) for pair in no_pairs((x, u)) if isinstance(pair, tuple) and pair != ()]
    wrong += [(x, u, part) for part in NO_FRACTIONS]
    wrong += [(x, u), (x, u, value, value), [x, u, value], ((x, u), value), (value, x, u), (x, value, u), x, value, (),
              None, {0: x, 1: u, 2: value}, MARKS, *ANYTHING]
    return no_items(errors.InvalidMarks, MARKS, wrong, ((ONE,), (HALF,), ONE), ((ONE,) * 3, (HALF,) * 3, ONE))


def no_weights():
    """Wrong weights for a method of two rows."""
    wrong = [(value, None) for value in ANYTHING if not isinstance(value, tuple)]
    wrong += [(value, 0) for value in ANYTHING if isinstance(value, tuple) and value != ()]
    wrong += [(list(WEIGHTS), None), (WEIGHTS[0], 0), ((WEIGHTS,), 0), ((None,) * 60, 0), ((*WEIGHTS, None), 4),
              (WEIGHTS[::-1], 1), ((WEIGHTS[1], WEIGHTS[0]), 1), ((*WEIGHTS, WEIGHTS[3]), 4), (WEIGHTS[:1] * 2, 1),
              ((WEIGHTS[0], (0, 1, TWO)), 1), ((*WEIGHTS[:2], (1, 0, ONE)), 2), ((*WEIGHTS[:3], (3, 0, (BIG, 1))), 3),
              ((WEIGHTS[2], (2, 3, ONE), None), 1)]
    for bad in ((0, 0, ONE), (3, 3, ONE), (0, 4, ONE), (4, 0, ONE), (-1, 0, ONE), (0, -1, ONE), (BIG, 0, ONE),
                (0, BIG, ONE), (0, 1), (0, 1, ONE, ONE), [0, 1, ONE], (0, 1, NIL), (0, 1, LESS), (0, 1, (-1, BIG)),
                (0, 1, 1), (0, 1, None), (0, 1, (2, 2)), (0, 1, [1, 1]), (0, 1, (True, 1)), (False, 1, ONE),
                (0, True, ONE), (None, 1, ONE), (0, None, ONE), ("0", 1, ONE), ((0,), 1, ONE), (ONE, TWO, ONE),
                (NIL, 1, ONE), ((0, 1), ONE), "abc", KIND, nested(13), *ANYTHING):
        wrong += [((bad,), 0), ((bad, *WEIGHTS), 0), ((*WEIGHTS[:2], bad, WEIGHTS[0], bad), 2)]
    return with_index(errors.InvalidWeights, wrong)


FRACTION = with_given(errors.InvalidFraction, NO_FRACTIONS)
SIZE = with_given(errors.InvalidSize, NO_SIZES)
SQUARE = with_given(errors.InvalidSquare, NO_SQUARES)
SHARE = with_given(errors.InvalidShare, NO_SIZES)
STEP = with_given(errors.InvalidStep, NO_STEPS)
MANY = with_given(errors.InvalidNumber, NO_NUMBERS)
NO_KIND = with_given(errors.InvalidKind, NO_KINDS)
NO_GAP = with_given(errors.InvalidGap, NO_GAPS)
NO_LEAD = with_given(errors.InvalidLead, NO_LEADS)
NO_LOT = no_lots()
PART = with_given(errors.InvalidShare, NO_SHARES)
STEP_NUMBER = with_given(errors.InvalidNumber, NO_STEP_NUMBERS)
NO_DISC = with_given(errors.InvalidDisc, NO_DISCS)
NO_MIX = with_given(errors.InvalidMix, NO_MIXES)
NO_TABLE = with_given(errors.InvalidTable, NO_TABLES)
NO_OTHER_TABLE = with_given(errors.InvalidTable, (*NO_TABLES, *OTHER_TABLES))
NO_ROW = no_rows(2)
NO_DATA = no_data()
NO_SPAN = with_given(errors.InvalidSpan, NO_SPANS)
NO_RATE_SPAN = with_given(errors.InvalidSpan, (*NO_SPANS, *OPEN_SPANS))
NO_METHOD = with_given(errors.InvalidMethod, NO_METHODS)
NO_POINTS = no_items(errors.InvalidPoints, POINTS, [*no_pairs(POINTS[0]), MARKS[0]], ((ONE,), (HALF,)),
                     ((ONE,) * 3, (HALF,) * 3))
NO_MARKS = no_marks()
NO_WEIGHTS = no_weights()
# For three points.
NO_INDEX = with_given(errors.InvalidIndex, [
    *(value for value in ANYTHING if isinstance(value, bool) or value not in (0, 1)), 3, -1, -3, 6, BIG, -BIG, NIL,
    (2,), [0], "2", nested(14)])
NO_RATE = with_given(errors.InvalidShare, NO_SQUARES)
DOWNWARD_STEP = with_given(errors.InvalidStep, NO_SIZES)
# Beside the size 2.
SHORT_STEP = with_given(errors.InvalidStep, [*NO_SIZES, ONE, TWO, (2, 3), (BIG, 1), (BIG // 2 + 1, BIG)])
FEW = with_given(errors.InvalidNumber, [
    *(value for value in ANYTHING if isinstance(value, bool) or value not in (0, 1)), 5, -1, 12, BIG, -BIG, ONE, NIL,
    [3], (3,), "3"])
