"""Point 8: the classes of errors."""

import unittest

from leftfirst import errors

PLAIN = ["InvalidCondition", "InvalidName", "InvalidNames", "InvalidAnswers", "InvalidAssignment", "InvalidStrength",
         "InvalidCode", "InvalidKind", "InvalidMachine", "InvalidNumber", "InvalidText", "TooLarge", "HasIf"]


class ErrorClasses(unittest.TestCase):
    def test_base_class_of_all(self):
        self.assertEqual(errors.LeftFirstError.__bases__, (ValueError,))

    def test_each_class_has_exactly_the_one_base(self):
        for name in [*PLAIN, "Missing"]:
            with self.subTest(name):
                self.assertEqual(getattr(errors, name).__bases__, (errors.LeftFirstError,))

    def test_each_class_is_defined_in_errors_under_its_name(self):
        for name in [*PLAIN, "Missing", "LeftFirstError"]:
            with self.subTest(name):
                self.assertEqual(getattr(errors, name).__name__, name)
                self.assertEqual(getattr(errors, name).__module__, "leftfirst.errors")

    def test_created_without_and_with_one_message(self):
        for name in [*PLAIN, "LeftFirstError"]:
            for arguments in [(), ("a message",)]:
                with self.subTest(name, arguments=arguments):
                    made = getattr(errors, name)
                    with self.assertRaises(made) as caught:
                        raise made(*arguments)
                    self.assertIs(type(caught.exception), made)
                    self.assertIsInstance(caught.exception, ValueError)


class MissingField(unittest.TestCase):
    def test_without_an_argument(self):
        self.assertIsNone(errors.Missing().name)

    def test_by_position_and_by_name(self):
        self.assertEqual(errors.Missing("a").name, "a")
        self.assertEqual(errors.Missing(name="b").name, "b")

    def test_holds_the_very_object_of_whatever_kind(self):
        for value in [["a"], {"a": 1}, ("test", ["a"]), 10 ** 999, "", False, 0, object(), errors.Missing("a")]:
            with self.subTest(kind=type(value)):
                self.assertIs(errors.Missing(value).name, value)
                self.assertIs(errors.Missing(name=value).name, value)

    def test_is_raised_and_caught_with_its_field(self):
        with self.assertRaises(errors.LeftFirstError) as caught:
            raise errors.Missing("abc")
        self.assertEqual(caught.exception.name, "abc")

    def test_two_do_not_share_the_field(self):
        one, other = errors.Missing("a"), errors.Missing("b")
        self.assertEqual([one.name, other.name], ["a", "b"])


if __name__ == "__main__":
    unittest.main()
