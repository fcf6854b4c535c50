"""Points [3] to [5] and what is told of the interface: which value is refused by which error, and in which order.

Each function has here a good call and, for each parameter that may be refused, the wrong values with the error
that each of them raises; the tests go through all of them, by position and by name, alone and in pairs.
"""

import inspect
import unittest

from bringnear import errors, kinds, leads, lots
from tests.helpers import ANYTHING, HALF, LESS, NIL, ONE, TWO, nested

BIG = 10 ** 399 + 9
KIND, OTHER, GAP = (1, 0, -1), (0, 1, 0), (ONE, HALF, HALF)
LEAD = ((ONE, HALF), (TWO, LESS))
LOT = (KIND, OTHER)

NO_FRACTIONS = (*ANYTHING, (2, 2), (0, 2), (0, 0), (1, 0), (1, -1), (-1, -1), (True, 1), (1, True), (False, 1),
                (1, None), ("1", 1), (1, "1"), [1, 2], (1, 2, 3), ((1, 2),), (BIG, 0), (2 * BIG, BIG), (1, -BIG),
                ((1, 1), (1, 1)), (1, (1,)), nested(14))
NO_SIZES = (*NO_FRACTIONS, NIL, LESS, (-1, BIG))
NO_SQUARES = (*NO_FRACTIONS, LESS, (-1, BIG))
NO_STEPS = (*NO_FRACTIONS, NIL)
NO_NUMBERS = (*(value for value in ANYTHING if value is True or value not in (1, 7)), 10 ** 6 + 1, BIG, -BIG, ONE, [3], (3,))
NO_KINDS = (*ANYTHING, (1, 1, 1), (1, 0, 0), (0, 0, 1), (0, 0, 0), (2, 0, -2), (0, 2, 4), (1, 0, 1), [1, 0, -1],
            (True, 0, -1), (1, False, -1), (1, 0, None), (1, 0, "-1"), (1, 0), (1, 0, -1, 0), (ONE, NIL, LESS),
            ((1, 0, -1),), (1, (0,), -1), LOT, (BIG, BIG, BIG), nested(14))
NO_GAPS = (*ANYTHING, (1, 0, 1), (NIL, NIL, NIL), (ONE, TWO, ONE), (LESS, NIL, LESS), (NIL, ONE, ONE),
           (ONE, ONE, NIL), (LESS, NIL, ONE), (ONE, NIL, LESS), [ONE, HALF, HALF], (ONE, HALF), (ONE, HALF, HALF, HALF),
           (ONE, (2, 4), HALF), (ONE, [1, 2], HALF), ((True, 1), HALF, HALF), (ONE, HALF, None), (ONE, (1, -2), HALF),
           (ONE, (1, 0), HALF), (ONE, 0, ONE), KIND, nested(14))
NO_LEADS = (*ANYTHING, [(ONE, HALF), (TWO, LESS)], ([ONE, HALF], (TWO, LESS)), ((ONE, HALF), [TWO, LESS]),
            ((ONE, HALF),), ((ONE, HALF), (TWO, LESS), (ONE, ONE)), ((ONE, HALF), (TWO,)), ((ONE, HALF), (TWO, LESS, ONE)),
            ((ONE, HALF), (TWO, ONE)), ((NIL, NIL), (ONE, ONE)), ((ONE, NIL), (ONE, NIL)), ((1, 0), (0, 1)),
            ((ONE, (2, 4)), (TWO, LESS)), ((ONE, (True, 2)), (TWO, LESS)), ((ONE, None), (TWO, LESS)),
            ((ONE, (1, 0)), (TWO, LESS)), ((ONE, HALF), "ab"), KIND, GAP, nested(14))


def with_given(error, values):
    return [(value, error, "given", value) for value in values]


def with_index(error, pairs):
    return [(value, error, "index", index) for value, index in pairs]


def no_lots():
    wrong = [(value, None) for value in ANYTHING if not isinstance(value, tuple)]
    wrong += [(value, 0) for value in ANYTHING if isinstance(value, tuple) and value != ()]
    wrong += [((), None), ([KIND], None), (KIND, 0), ((KIND, None), 1), ((KIND, (2, 0, -2)), 1),
              ((KIND, OTHER, [0, 1, 0], (1, 1, 1)), 2), ((KIND, OTHER, KIND, (1, 1)), 3), ((KIND,) * 5, 4),
              ((KIND,) * 4 + (None,), 4), ((KIND,) * 60, 4), ((KIND, True, KIND, KIND, KIND), 1),
              ((KIND, (True, 0, -1)), 1), ((KIND, (KIND,)), 1), ((None, None), 0)]
    return with_index(errors.InvalidLot, wrong)


def no_rows(length):
    """Wrong values for a row, which is to have a length, or one to four elements for None."""
    right = (1, 2, 3, 4) if length is None else (length,)
    wrong = [(value, None) for value in ANYTHING if not isinstance(value, tuple) or len(value) not in right]
    wrong += [(value, 0) for value in ANYTHING if isinstance(value, tuple) and len(value) in right
              and value not in (((1, 1), [1, 1]), ((1,), (2,)))]
    wrong += [([ONE] * right[-1], None), ((ONE,) * (right[-1] + 1), None), ((ONE,) * (right[0] - 1), None),
              ((None,) * (right[-1] + 1), None), ((ONE,) * 60, None)]
    for at in range(right[-1]):
        for bad in NO_FRACTIONS:
            row = [ONE] * right[-1]
            row[at] = bad
            wrong.append((tuple(row), at))
    wrong.append(((None,) * right[-1], 0))
    return with_index(errors.InvalidRow, wrong)


FRACTION = with_given(errors.InvalidFraction, NO_FRACTIONS)
SIZE = with_given(errors.InvalidSize, NO_SIZES)
SQUARE = with_given(errors.InvalidSquare, NO_SQUARES)
SHARE = with_given(errors.InvalidShare, NO_SIZES)
STEP = with_given(errors.InvalidStep, NO_STEPS)
MANY = with_given(errors.InvalidNumber, NO_NUMBERS)
NO_KIND = with_given(errors.InvalidKind, NO_KINDS)
NO_GAP = with_given(errors.InvalidGap, NO_GAPS)
NO_LEAD = with_given(errors.InvalidLead, NO_LEADS)
NO_LOT = no_lots()

# The function, its parameters in their order, each with a good value and the wrong ones.
CALLS = (
    (kinds.gap_of, (("x", (ONE, TWO), no_rows(None)), ("u", (ONE, NIL), no_rows(2)), ("y", (NIL, NIL), no_rows(2)),
                    ("v", (NIL, HALF), no_rows(2)))),
    (kinds.kind_of, (("first", ONE, FRACTION), ("second", TWO, FRACTION), ("third", LESS, FRACTION))),
    (kinds.bounded, (("size", TWO, SIZE),)),
    (kinds.one_way, (("least", LESS, FRACTION),)),
    (kinds.pulled, (("size", TWO, SIZE),)),
    (kinds.averaged, (("share", HALF, SHARE),)),
    (kinds.disc_kind, (("centre", NIL, FRACTION), ("radius", HALF, SIZE))),
    (kinds.word_of, (("kind", KIND, NO_KIND),)),
    (kinds.centre_of, (("kind", KIND, NO_KIND),)),
    (kinds.radius_square, (("kind", KIND, NO_KIND),)),
    (kinds.holds, (("kind", KIND, NO_KIND), ("gap", GAP, NO_GAP))),
    (kinds.lies_in, (("kind", KIND, NO_KIND), ("other", OTHER, NO_KIND))),
    (kinds.gap_between, (("kind", KIND, NO_KIND), ("other", OTHER, NO_KIND))),
    (leads.led, (("kind", KIND, NO_KIND), ("lead", LEAD, NO_LEAD))),
    (leads.gap_led, (("gap", GAP, NO_GAP), ("lead", LEAD, NO_LEAD))),
    (leads.lead_product, (("lead", LEAD, NO_LEAD), ("other", LEAD, NO_LEAD))),
    (leads.lead_back, (("lead", LEAD, NO_LEAD),)),
    (leads.step_lead, (("step", HALF, STEP),)),
    (leads.resolvent_lead, (("step", HALF, STEP),)),
    (leads.reflection_lead, (("step", HALF, STEP),)),
    (leads.mean_lead, (("step", HALF, STEP),)),
    (leads.lead_between, (("kind", KIND, NO_KIND), ("other", OTHER, NO_KIND))),
    (lots.is_empty, (("lot", LOT, NO_LOT),)),
    (lots.any_gap, (("lot", LOT, NO_LOT),)),
    (lots.lot_lies_in, (("lot", LOT, NO_LOT), ("kind", KIND, NO_KIND))),
    (lots.breaking_gap, (("lot", LOT, NO_LOT), ("kind", KIND, NO_KIND))),
    (lots.brings, (("lot", LOT, NO_LOT), ("square", HALF, SQUARE))),
    (lots.spreads, (("lot", LOT, NO_LOT), ("square", HALF, SQUARE))),
    (lots.size_near, (("lot", LOT, NO_LOT), ("many", 10, MANY))),
    (lots.best_step, (("lot", LOT, NO_LOT),)),
)
WHATEVER = (kinds.is_kind, kinds.is_gap, leads.is_lead, lots.is_lot)

EMPTY = ((1, 0, -1), (0, 1, 4))
ROW = (ONE, HALF)
# What is told with "last": good and wrong arguments, and the error of the wrong ones if nothing else is wrong.
LAST = (
    (kinds.gap_of, (ROW, ROW, ROW, ROW), errors.LikePairs),
    (kinds.kind_of, (ONE, ONE, ONE), errors.NoKind),
    (lots.size_near, (EMPTY, 3), errors.EmptyLot),
    (lots.best_step, (EMPTY,), errors.EmptyLot),
)


class WrongArguments(unittest.TestCase):
    def check_raises(self, call, row):
        _, error, attribute, wanted = row
        with self.assertRaises(errors.NearError) as caught:
            call()
        self.assertIs(type(caught.exception), error)
        found = getattr(caught.exception, attribute)
        if attribute == "given":
            self.assertIs(found, wanted)
        else:
            self.assertEqual((type(found), found), (type(wanted), wanted))

    def test_each_function_is_tested(self):
        tested = {call for call, _ in CALLS} | set(WHATEVER)
        for module in (kinds, leads, lots):
            for name in interface_names(module):
                self.assertIn(getattr(module, name), tested, name)

    def test_signatures(self):
        for function, parameters in CALLS:
            self.assertEqual(list(inspect.signature(function).parameters), [name for name, _, _ in parameters])
        for function in WHATEVER:
            self.assertEqual(list(inspect.signature(function).parameters), ["value"])

    def test_good_calls(self):
        for function, parameters in CALLS:
            good = {name: value for name, value, _ in parameters}
            self.assertEqual(function(*good.values()), function(**good))

    def test_each_wrong_value(self):
        for function, parameters in CALLS:
            good = {name: value for name, value, _ in parameters}
            for name, _, wrong in parameters:
                for row in wrong:
                    passed = {**good, name: row[0]}
                    with self.subTest(function=function.__name__, name=name, value=repr(row[0])[:80]):
                        self.check_raises(lambda: function(*passed.values()), row)
                        self.check_raises(lambda: function(**passed), row)

    def test_the_first_wrong_argument_is_told(self):
        for function, parameters in CALLS:
            good = {name: value for name, value, _ in parameters}
            for at, (name, _, wrong) in enumerate(parameters):
                for behind, _, others in parameters[at + 1:]:
                    for row, other in zip(wrong[::7], others[::-1]):
                        passed = {**good, behind: other[0], name: row[0]}
                        turned = dict(reversed(list(passed.items())))
                        with self.subTest(function=function.__name__, name=name, behind=behind):
                            self.check_raises(lambda: function(*passed.values()), row)
                            self.check_raises(lambda: function(**turned), row)

    def test_last(self):
        for function, passed, error in LAST:
            names = list(inspect.signature(function).parameters)
            with self.assertRaises(error) as caught:
                function(*passed)
            self.assertEqual(vars(caught.exception), {})
            with self.assertRaises(error):
                function(**dict(zip(names, passed)))
            for at, (name, _, wrong) in enumerate(dict(CALLS)[function]):
                for row in wrong:
                    self.check_raises(lambda: function(*passed[:at], row[0], *passed[at + 1:]), row)

    def test_rows_as_long_as_the_first_one(self):
        for length in (1, 2, 3, 4):
            row = (ONE,) * length
            for other in (1, 2, 3, 4):
                if other == length:
                    continue
                for at in (1, 2, 3):
                    passed = [row, row, (NIL,) * length, row]
                    passed[at] = (ONE,) * other
                    with self.assertRaises(errors.InvalidRow) as caught:
                        kinds.gap_of(*passed)
                    self.assertIsNone(caught.exception.index)

    def test_whatever_it_is(self):
        for value in (*ANYTHING, *NO_FRACTIONS, *NO_KINDS, *NO_GAPS, *NO_LEADS, KIND, GAP, LEAD, LOT, [LOT], {KIND: GAP}):
            found = [function(value) for function in WHATEVER]
            self.assertTrue(all(type(told) is bool for told in found))
            self.assertLessEqual(sum(found), 1)

    def test_arguments_are_not_changed(self):
        for function, parameters in CALLS:
            for name, _, wrong in parameters:
                for row in wrong:
                    if isinstance(row[0], (list, dict, set)):
                        before = repr(row[0])
                        with self.assertRaises(errors.NearError):
                            function(**{**{other: good for other, good, _ in parameters}, name: row[0]})
                        self.assertEqual(repr(row[0]), before)


INTERFACE = {
    kinds: "is_kind is_gap gap_of kind_of bounded one_way pulled averaged disc_kind word_of centre_of radius_square "
           "holds lies_in gap_between",
    leads: "is_lead led gap_led lead_product lead_back step_lead resolvent_lead reflection_lead mean_lead lead_between",
    lots: "is_lot is_empty any_gap lot_lies_in breaking_gap brings spreads size_near best_step",
}


def interface_names(module):
    return INTERFACE[module].split()


class Interface(unittest.TestCase):
    def test_names_are_defined_where_they_are_listed(self):
        for module in INTERFACE:
            for name in interface_names(module):
                self.assertEqual(getattr(module, name).__module__, module.__name__)


if __name__ == "__main__":
    unittest.main()
