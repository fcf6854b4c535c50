"""Point [4]: the classes of errors, what they stand under and what they keep."""

import unittest

from bringnear import errors
from tests.helpers import ANYTHING

WITH_GIVEN = (
    "InvalidFraction", "InvalidNumber", "InvalidIndex", "InvalidSize", "InvalidSquare", "InvalidShare",
    "InvalidStep", "InvalidKind", "InvalidGap", "InvalidLead", "InvalidDisc", "InvalidMix", "InvalidTable",
    "InvalidSpan", "InvalidMethod",
)
WITH_INDEX = ("InvalidRow", "InvalidLot", "InvalidData", "InvalidPoints", "InvalidMarks", "InvalidWeights", "Misfit")
WITHOUT = ("NoKind", "LikePairs", "EmptyLot", "NotClosed", "Wild", "NoFunction")


class Errors(unittest.TestCase):
    def test_base(self):
        self.assertEqual(errors.NearError.__bases__, (ValueError,))
        self.assertEqual(vars(errors.NearError()), {})

    def test_all_stand_under_the_base_alone(self):
        for name in WITH_GIVEN + WITH_INDEX + WITHOUT:
            with self.subTest(name=name):
                self.assertEqual(
                    getattr(errors, name).__mro__[1:],
                    (errors.NearError, ValueError, Exception, BaseException, object))

    def test_there_are_no_others(self):
        classes = {name for name, value in vars(errors).items() if isinstance(value, type)}
        self.assertEqual(classes, {"NearError", *WITH_GIVEN, *WITH_INDEX, *WITHOUT})
        for name in classes:
            self.assertEqual(getattr(errors, name).__module__, "bringnear.errors")

    def check_keeps(self, name, attribute):
        made = getattr(errors, name)
        for value in (*ANYTHING, 10 ** 9000, (10 ** 9000, 1)):
            for error in (made(value), made(**{attribute: value})):
                self.assertIs(getattr(error, attribute), value)
                self.assertEqual(list(vars(error)), [attribute])
                self.assertIsInstance(str(error), str)
                self.assertIsInstance(repr(error), str)
        with self.assertRaises(TypeError):
            made()

    def test_given_is_kept(self):
        for name in WITH_GIVEN:
            with self.subTest(name=name):
                self.check_keeps(name, "given")

    def test_index_is_kept(self):
        for name in WITH_INDEX:
            with self.subTest(name=name):
                self.check_keeps(name, "index")

    def test_without_attributes(self):
        for name in WITHOUT:
            with self.subTest(name=name):
                self.assertEqual(vars(getattr(errors, name)()), {})


if __name__ == "__main__":
    unittest.main()
