"""Points [3] to [5] and what is told of the interface: which value is refused by which error, and in which order.

The tests go through all functions and all wrong values of each parameter, by position and by name, alone and in
pairs.
"""

import inspect
import unittest

from bringnear import checker, errors, kinds
from tests.calls import CALLS, INTERFACE, LAST, WHATEVER
from tests.helpers import ANYTHING, NIL, ONE
from tests.wrong_values import (
    DATA, DISC, GAP, KIND, LEAD, LOT, METHOD, NO_DATA, NO_DISCS, NO_FRACTIONS, NO_GAPS, NO_KINDS, NO_LEADS, NO_LOT,
    NO_METHODS, NO_MIXES, NO_SPANS, NO_TABLES, SPAN, TABLE,
)


class WrongArguments(unittest.TestCase):
    def check_raises(self, call, row):
        _, error, attribute, wanted = row
        with self.assertRaises(errors.NearError) as caught:
            call()
        self.assertIs(type(caught.exception), error)
        found = getattr(caught.exception, attribute)
        if attribute == "given":
            self.assertIs(found, wanted)
        else:
            self.assertEqual((type(found), found), (type(wanted), wanted))

    def test_each_function_is_tested(self):
        # The tests of the checker pass it whatever it is.
        tested = {call for call, _ in CALLS} | set(WHATEVER) | {checker.accepts}
        for module in INTERFACE:
            for name in interface_names(module):
                self.assertIn(getattr(module, name), tested, name)

    def test_signatures(self):
        for function, parameters in CALLS:
            self.assertEqual(list(inspect.signature(function).parameters), [name for name, _, _ in parameters])
        for function in WHATEVER:
            self.assertEqual(list(inspect.signature(function).parameters), ["value"])

    def test_good_calls(self):
        for function, parameters in CALLS:
            good = {name: value for name, value, _ in parameters}
            self.assertEqual(function(*good.values()), function(**good))

    def test_each_wrong_value(self):
        for function, parameters in CALLS:
            good = {name: value for name, value, _ in parameters}
            for name, _, wrong in parameters:
                for row in wrong:
                    passed = {**good, name: row[0]}
                    with self.subTest(function=function.__name__, name=name, value=repr(row[0])[:80]):
                        self.check_raises(lambda: function(*passed.values()), row)
                        self.check_raises(lambda: function(**passed), row)

    def test_the_first_wrong_argument_is_told(self):
        for function, parameters in CALLS:
            good = {name: value for name, value, _ in parameters}
            for at, (name, _, wrong) in enumerate(parameters):
                for behind, _, others in parameters[at + 1:]:
                    for row, other in zip(wrong[::7], others[::-1]):
                        passed = {**good, behind: other[0], name: row[0]}
                        turned = dict(reversed(list(passed.items())))
                        with self.subTest(function=function.__name__, name=name, behind=behind):
                            self.check_raises(lambda: function(*passed.values()), row)
                            self.check_raises(lambda: function(**turned), row)

    def test_last(self):
        for function, passed, error, attributes in LAST:
            names = list(inspect.signature(function).parameters)
            with self.assertRaises(errors.NearError) as caught:
                function(*passed)
            self.assertIs(type(caught.exception), error)
            self.assertEqual(vars(caught.exception), attributes)
            with self.assertRaises(error):
                function(**dict(zip(names, passed)))
            for at, (name, _, wrong) in enumerate(dict(CALLS)[function]):
                for row in wrong:
                    self.check_raises(lambda: function(*passed[:at], row[0], *passed[at + 1:]), row)

    def test_rows_as_long_as_the_first_one(self):
        for length in (1, 2, 3, 4):
            row = (ONE,) * length
            for other in (1, 2, 3, 4):
                if other == length:
                    continue
                for at in (1, 2, 3):
                    passed = [row, row, (NIL,) * length, row]
                    passed[at] = (ONE,) * other
                    with self.assertRaises(errors.InvalidRow) as caught:
                        kinds.gap_of(*passed)
                    self.assertIsNone(caught.exception.index)

    def test_whatever_it_is(self):
        tested = (*ANYTHING, *NO_FRACTIONS, *NO_KINDS, *NO_GAPS, *NO_LEADS, *NO_DISCS, *NO_MIXES, *NO_TABLES,
                  *NO_SPANS, *NO_METHODS, [LOT], {KIND: GAP}, *(row[0] for row in NO_DATA))
        for value in tested:
            found = [function(value) for function in WHATEVER]
            self.assertTrue(all(type(told) is bool for told in found), value)
        right = dict(zip((KIND, GAP, LEAD, LOT, DISC, TABLE, DATA, SPAN, METHOD), WHATEVER))
        for value in right:
            self.assertIs(right[value](value=value), True)

    def test_whatever_it_is_not(self):
        no_lots, no_data = [row[0] for row in NO_LOT], [row[0] for row in NO_DATA]
        wrong = (NO_KINDS, NO_GAPS, NO_LEADS, no_lots, NO_DISCS, NO_TABLES, no_data, NO_SPANS, NO_METHODS)
        for function, values in zip(WHATEVER, wrong):
            for value in values:
                self.assertIs(function(value), False, (function.__name__, value))

    def test_arguments_are_not_changed(self):
        for function, parameters in CALLS:
            for name, _, wrong in parameters:
                for row in wrong:
                    if isinstance(row[0], (list, dict, set)):
                        before = repr(row[0])
                        with self.assertRaises(errors.NearError):
                            function(**{**{other: good for other, good, _ in parameters}, name: row[0]})
                        self.assertEqual(repr(row[0]), before)


def interface_names(module):
    return INTERFACE[module].split()


class Interface(unittest.TestCase):
    def test_names_are_defined_where_they_are_listed(self):
        for module in INTERFACE:
            for name in interface_names(module):
                self.assertEqual(getattr(module, name).__module__, module.__name__)


if __name__ == "__main__":
    unittest.main()
