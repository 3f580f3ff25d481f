"""The errors of the interface (0.3)."""

import unittest

from howhigh import errors
from howhigh.programs import Program

KEEPING = {
    "NoName": "name", "BadProgram": "part", "BadChoices": "index", "Above": "name", "TooMany": "most",
    "Clash": "word", "BadText": "line", "NoProgram": "name",
}
PLAIN = ["BadRows", "BadWay", "BadStarts", "Over", "BadChoice", "TooLong", "NothingDone", "NotTop", "NoBranch",
         "Unlike", "BadNames", "BadProducts", "NoLine", "NoRun"]


class ErrorsTest(unittest.TestCase):
    def test_the_base_derives_directly_from_value_error(self):
        self.assertEqual(errors.HighError.__bases__, (ValueError,))

    def test_all_others_derive_directly_from_the_base(self):
        for name in [*KEEPING, *PLAIN]:
            self.assertEqual(getattr(errors, name).__bases__, (errors.HighError,), name)

    def test_there_are_no_further_ones(self):
        classes = [name for name, thing in vars(errors).items() if isinstance(thing, type)]
        self.assertEqual(sorted(classes), sorted(["HighError", *KEEPING, *PLAIN]))

    def test_plain_errors_are_made_of_nothing(self):
        for name in PLAIN:
            self.assertEqual(vars(getattr(errors, name)()), {}, name)

    def test_errors_keep_what_they_are_made_with_as_passed(self):
        for kept in ["a", 3, -1, None, True, ["a"], {"a": []}, (), Program(("a",), {}, ()), errors.NoName("b"), b"c"]:
            for name, attribute in KEEPING.items():
                error = getattr(errors, name)(kept)
                self.assertIs(getattr(error, attribute), kept, name)
                self.assertEqual(list(vars(error)), [attribute], name)


if __name__ == "__main__":
    unittest.main()
