"""Point 3 and the interface of provedunseen.errors."""

import unittest

from interface import defined_in
from provedunseen import errors

PLAIN = """BadRatio BadWeight EmptyDistribution BadPermutation BadDraw BadGraph BadStatement BadWitness
BadQuestion BadContents TooLarge NothingExtracted BadTable LeakyTable BadPlan Crash TapeEnd AlreadySealed
NotSealed BadBox BadSession BadProgram BadSchedule""".split()
WITH_NUMBER = {"BadText": "at", "BadLog": "place", "BadBench": "line"}


class ErrorsTest(unittest.TestCase):
    def test_base_is_a_value_error(self):
        self.assertEqual(errors.UnseenError.__bases__, (ValueError,))

    def test_every_error_is_listed_and_derived_directly(self):
        for name in [*PLAIN, *WITH_NUMBER]:
            with self.subTest(name=name):
                self.assertEqual(getattr(errors, name).__bases__, (errors.UnseenError,))
        self.assertEqual(defined_in("errors"), {"UnseenError", *PLAIN, *WITH_NUMBER})

    def test_plain_errors_take_a_message(self):
        for name in PLAIN:
            with self.assertRaises(getattr(errors, name)) as caught:
                raise getattr(errors, name)("why")
            self.assertEqual(str(caught.exception), "why")

    def test_errors_with_a_number(self):
        for name, attribute in WITH_NUMBER.items():
            with self.assertRaises(errors.UnseenError) as caught:
                raise getattr(errors, name)(7)
            self.assertEqual(getattr(caught.exception, attribute), 7)
            self.assertIn("7", str(caught.exception))


if __name__ == "__main__":
    unittest.main()
