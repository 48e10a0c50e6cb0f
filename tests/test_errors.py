"""wheresay.errors: the classes, where they stand, and their fields."""

import unittest

from wheresay import errors

PLAIN = ("BadSaying", "BadSheet", "BadPart", "Unlike", "BadBlocks")


class Classes(unittest.TestCase):
    def test_head_stands_straight_under_value_error(self):
        self.assertEqual(errors.SayError.__bases__, (ValueError,))

    def test_all_others_stand_straight_under_the_head(self):
        for name in PLAIN + ("Clashing", "BadRows"):
            with self.subTest(name):
                self.assertEqual(getattr(errors, name).__bases__, (errors.SayError,))

    def test_all_can_be_raised_and_caught_by_the_head(self):
        raised = [getattr(errors, name)("why") for name in PLAIN]
        raised += [errors.Clashing([1]), errors.BadRows(0)]
        for error in raised:
            with self.subTest(error), self.assertRaises(errors.SayError):
                raise error


class Fields(unittest.TestCase):
    def test_clashing_tells_its_numbers(self):
        self.assertEqual(errors.Clashing([1, 0, -2]).numbers, [1, 0, -2])
        self.assertEqual(errors.Clashing([]).numbers, [])

    def test_clashing_keeps_no_list_that_was_handed_in(self):
        numbers = [1, -1]
        error = errors.Clashing(numbers)
        numbers.append(5)
        self.assertEqual(error.numbers, [1, -1])
        for kept in error.args:
            self.assertIsNot(kept, numbers)

    def test_a_changed_field_changes_nothing_but_itself(self):
        numbers = [1, -1]
        first, second = errors.Clashing(numbers), errors.Clashing(numbers)
        first.numbers[0] = 9
        first.numbers.append(9)
        self.assertEqual(numbers, [1, -1])
        self.assertEqual(second.numbers, [1, -1])

    def test_bad_rows_tells_its_row(self):
        for row in (0, 1, 22):
            self.assertEqual(errors.BadRows(row).row, row)


if __name__ == "__main__":
    unittest.main()
