"""The error classes of the interface."""

import unittest

from tallyhull import errors

WORDS = ["NotMatrix", "NotPointed", "NotSide", "NotVector", "NotCost", "NotMoves", "NotPaper",
         "BadNumber", "NoAnswer", "TooLarge", "OpenTrial"]
NUMBERED = [("Malformed", "at"), ("BadJournal", "row")]


class ErrorClasses(unittest.TestCase):

    def test_the_base_class(self):
        self.assertEqual(errors.TallyError.__bases__, (ValueError,))

    def test_every_other_class_is_directly_below_it(self):
        for name in WORDS + [name for name, _ in NUMBERED]:
            with self.subTest(name):
                self.assertEqual(getattr(errors, name).__bases__, (errors.TallyError,))

    def test_there_are_no_other_classes(self):
        found = [name for name, value in vars(errors).items() if isinstance(value, type)]
        self.assertEqual(sorted(found),
                         sorted(["TallyError"] + WORDS + [name for name, _ in NUMBERED]))

    def test_raised_with_a_message(self):
        for name in WORDS:
            with self.subTest(name):
                with self.assertRaises(errors.TallyError) as caught:
                    raise getattr(errors, name)("told so")
                self.assertEqual(str(caught.exception), "told so")

    def test_raised_with_an_integer(self):
        for name, attribute in NUMBERED:
            for number in (0, 7):
                with self.subTest(name, number=number):
                    with self.assertRaises(errors.TallyError) as caught:
                        raise getattr(errors, name)(number)
                    self.assertEqual(getattr(caught.exception, attribute), number)


if __name__ == "__main__":
    unittest.main()
