import unittest

from callfold import errors
from callfold.errors import BadRun, FoldError, NoText, Ringed

WITH_TEXT = [
    "Twice", "NoDeed", "WrongCount", "TooDeep", "TooLong", "TooBig", "NoCall", "NoMark",
    "TooMany", "Called", "NoWay", "NoRow", "NoBack", "Broken",
]
WITH_FIELD = ["Ringed", "BadRun", "NoText"]


class ErrorClasses(unittest.TestCase):
    def test_fold_error_is_a_value_error(self):
        self.assertEqual(FoldError.__bases__, (ValueError,))
        self.assertIsInstance(FoldError("why"), ValueError)

    def test_each_class_stands_straight_under_fold_error(self):
        for name in WITH_TEXT + WITH_FIELD:
            with self.subTest(name):
                self.assertEqual(getattr(errors, name).__bases__, (FoldError,))

    def test_no_class_stands_under_another_one(self):
        classes = [getattr(errors, name) for name in WITH_TEXT + WITH_FIELD]
        for one in classes:
            self.assertEqual([other for other in classes if issubclass(one, other)], [one])

    def test_made_with_a_text(self):
        for name in WITH_TEXT:
            with self.subTest(name):
                with self.assertRaises(FoldError) as caught:
                    raise getattr(errors, name)("some words")
                self.assertEqual(str(caught.exception), "some words")


class ErrorFields(unittest.TestCase):
    def test_ringed_bears_the_ring(self):
        self.assertEqual(Ringed([3, 1]).ring, [3, 1])

    def test_ringed_keeps_a_copy_alone(self):
        ring = [3, 1]
        error = Ringed(ring)
        ring.append(7)
        self.assertEqual(error.ring, [3, 1])
        error.ring.clear()
        self.assertEqual(ring, [3, 1, 7])
        self.assertFalse(any(held is ring for held in error.args))

    def test_two_errors_share_no_list(self):
        ring = [4]
        self.assertIsNot(Ringed(ring).ring, Ringed(ring).ring)

    def test_bad_run_bears_the_run(self):
        self.assertEqual(BadRun(0).run, 0)
        self.assertEqual(BadRun(5).run, 5)

    def test_no_text_bears_the_row(self):
        self.assertEqual(NoText(0).row, 0)
        self.assertEqual(NoText(12).row, 12)


if __name__ == "__main__":
    unittest.main()
