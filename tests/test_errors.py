"""Point 4 and leastmend/errors.py."""

import unittest

from leastmend import errors

NAMES = [
    "BadLine", "TakenRule", "TooLarge", "UnknownSymbol", "NoRow", "NotReached",
    "BadKinds", "OutOfRange", "TooManySigns", "TooLong", "BadMend",
]
CLASSES = [getattr(errors, name) for name in NAMES]


class TheClasses(unittest.TestCase):
    def test_each_is_directly_below_mend_error(self):
        for one in CLASSES:
            self.assertEqual(one.__bases__, (errors.MendError,), one)

    def test_mend_error_is_below_value_error(self):
        self.assertEqual(errors.MendError.__bases__, (ValueError,))

    def test_none_is_a_base_of_another(self):
        self.assertEqual(len(set(CLASSES)), 11)
        for one in CLASSES:
            for two in CLASSES:
                if one is not two:
                    self.assertFalse(issubclass(one, two), (one, two))

    def test_each_is_defined_in_its_file_under_its_name(self):
        for name, one in zip(NAMES + ["MendError"], CLASSES + [errors.MendError]):
            self.assertEqual(one.__name__, name)
            self.assertEqual(one.__module__, "leastmend.errors")

    def test_there_are_no_other_classes(self):
        found = [name for name in vars(errors) if isinstance(getattr(errors, name), type)]
        self.assertEqual(sorted(found), sorted(NAMES + ["MendError"]))


class TheAttribute(unittest.TestCase):
    def test_each_error_keeps_its_integer(self):
        # 10 ** 5000 has more digits than Python writes by default.
        for at in [0, 1, 7, -1, -(2 ** 70), 2 ** 32 - 1, 10 ** 5000, -(10 ** 5000)]:
            for one in CLASSES + [errors.MendError]:
                self.assertEqual(one(at).at, at)
                self.assertIs(one(at).at.__class__, int)

    def test_it_is_the_only_attribute(self):
        for one in CLASSES + [errors.MendError]:
            self.assertEqual(vars(one(3)), {"at": 3})

    def test_two_errors_keep_their_own(self):
        for one in CLASSES:
            first, second = one(1), one(2)
            self.assertEqual((first.at, second.at), (1, 2))

    def test_it_is_there_when_the_error_is_caught(self):
        for one in CLASSES:
            for base in [one, errors.MendError, ValueError]:
                with self.assertRaises(base) as caught:
                    raise one(5)
                self.assertEqual(caught.exception.at, 5)

    def test_the_integer_is_needed_and_nothing_else(self):
        for one in CLASSES + [errors.MendError]:
            with self.assertRaises(TypeError):
                one()
            with self.assertRaises(TypeError):
                one(1, 2)


if __name__ == "__main__":
    unittest.main()
