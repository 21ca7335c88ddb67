"""Points 7 and 8 for conditions and texts: what an argument may be, which error is raised, how long a call takes."""

import time
import unittest

from leftfirst.conditions import dual, is_condition, names, replaced, tests
from leftfirst.errors import InvalidCondition, InvalidName, InvalidText, TooLarge
from leftfirst.texts import read, write
from tests.checks import LONGEST, Calls, kinds
from tests.samples import A, B, C, bounds, flat, invalid_conditions, invalid_names, nested, nots, unchanged


class WrongArguments(Calls):
    def test_functions_of_one_condition(self):
        for function in [tests, names, dual, write]:
            for value in invalid_conditions():
                self.check(InvalidCondition, function, value)

    def test_replaced_first_argument(self):
        for value in invalid_conditions():
            self.check(InvalidCondition, replaced, value, "a", B)

    def test_replaced_first_argument_where_later_ones_are_wrong_too(self):
        for value in [None, "a", ["test", "a"], ("and", A), flat("and", "a" * 61)]:
            self.check(InvalidCondition, replaced, value, "A", B)
            self.check(InvalidCondition, replaced, value, None, B)
            self.check(InvalidCondition, replaced, value, "a", None)
            self.check(InvalidCondition, replaced, value, 1, [])

    def test_replaced_second_argument(self):
        for value in invalid_names():
            self.check(InvalidName, replaced, ("and", A, B), value, B)

    def test_replaced_second_argument_where_the_last_one_is_wrong_too(self):
        for value in [None, "", "not", "A", 1, ["a"], ("a",)]:
            self.check(InvalidName, replaced, A, value, None)
            self.check(InvalidName, replaced, A, value, ("and", A))

    def test_replaced_third_argument(self):
        for value in invalid_conditions():
            self.check(InvalidCondition, replaced, A, "a", value)
            self.check(InvalidCondition, replaced, A, "b", value)

    def test_arguments_are_checked_before_the_size_of_the_outcome(self):
        most = flat("and", "a" * 60)
        self.check(TooLarge, replaced, most, "a", ("and", A, B))
        self.check(InvalidName, replaced, most, "A", ("and", A, B))
        self.check(InvalidCondition, replaced, most, "a", ("and", A))
        self.check(InvalidCondition, replaced, most, "a", flat("and", "a" * 61))
        self.check(InvalidCondition, replaced, nots(80, A), "a", ("and", A, B))

    def test_read(self):
        for value in [value for value in invalid_conditions() if value != "a" and value != "test" and value != "a and b"]:
            self.check(InvalidText, read, value)

    def test_read_large_texts(self):
        for text in ["a" * 30000, " " * 30000, "\n" * 30000, "(" * 30000, ")" * 30000, "(" * 15000 + ")" * 15000,
                     "(" * 14999 + "a" + ")" * 14999, "not " * 7499 + "a", "not (" * 4999 + "a" + ")" * 4999,
                     "not " * 7500, "a and " * 4999 + "a", "a or " * 5999 + "a", "a if a else " * 2499 + "a", "()" * 15000,
                     "a and (" * 3749 + "a" + ")" * 3749, "(a if " * 3000, "else " * 6000, "a if " * 6000, "a " * 15000,
                     "(a or b) and " * 2300 + "a", "a if (" * 3000 + "a" + ") else a" * 1500, "a if b else (" * 2000 + "a"]:
            self.check(InvalidText, read, text)


class ByName(unittest.TestCase):
    def test_by_position_and_by_name(self):
        condition = ("and", A, ("not", B))
        self.assertIs(is_condition(value=condition), True)
        self.assertIs(is_condition(value=None), False)
        self.assertEqual(tests(condition=condition), ["a", "b"])
        self.assertEqual(names(condition=condition), ("a", "b"))
        self.assertEqual(dual(condition=condition), ("or", A, ("not", B)))
        self.assertEqual(write(condition=condition), "a and not b")
        self.assertEqual(read(text="a and not b"), condition)
        self.assertEqual(replaced(condition=condition, name="b", other=C), ("and", A, ("not", C)))

    def test_in_another_order(self):
        self.assertEqual(replaced(other=C, name="b", condition=("or", A, B)), ("or", A, C))
        self.assertEqual(replaced(("or", A, B), other=C, name="b"), ("or", A, C))
        self.assertRaises(InvalidCondition, replaced, other=None, name=None, condition=None)
        self.assertRaises(InvalidName, replaced, other=None, name=None, condition=A)
        self.assertRaises(InvalidCondition, replaced, other=None, name="a", condition=A)


class RightArguments(unittest.TestCase):
    def test_nothing_is_modified_and_the_same_is_returned_again(self):
        for condition in [A, ("if", ("and", A, B), ("or", C, A), ("not", B))]:
            for function in [is_condition, tests, names, dual, write]:
                self.assertEqual(unchanged(self, function, condition), function(condition))
            self.assertEqual(unchanged(self, replaced, condition, "a", B), replaced(condition, "a", B))
        self.assertEqual(unchanged(self, read, "a and b"), ("and", A, B))

    def test_outcomes_are_made_of_tuples_and_strings(self):
        condition = ("if", ("and", A, B), ("or", C, A), ("not", B))
        for outcome in [dual(condition), replaced(condition, "a", condition), read(write(condition))]:
            self.assertIs(is_condition(outcome), True)
            self.assertEqual(kinds(outcome), {tuple, str})

    def test_conditions_at_the_bounds_do_not_take_long(self):
        for name, (condition, _) in bounds().items():
            with self.subTest(name):
                began = time.perf_counter()
                for function in [is_condition, tests, names, dual, write]:
                    function(condition)
                read(write(condition))
                replaced(condition, "z", condition)
                self.assertLess(time.perf_counter() - began, LONGEST)

    def test_is_condition_takes_any_value(self):
        for value in [*invalid_conditions(), *invalid_names(), nested(99, tuple), nested(99, list), nested(99, dict)]:
            began = time.perf_counter()
            self.assertIn(unchanged(self, is_condition, value), [True, False])
            self.assertLess(time.perf_counter() - began, LONGEST)


if __name__ == "__main__":
    unittest.main()
