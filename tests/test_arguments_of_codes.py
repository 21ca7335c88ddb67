"""Points 7 and 8 for runs, codes, steady and outcome: wrong arguments, arguments by name, unchanged, and the time."""

import random
import unittest

from leftfirst.codes import code, is_code, joined, run_code, turned
from leftfirst.conditions import tests
from leftfirst.errors import InvalidAnswers, InvalidAssignment, InvalidCode, InvalidCondition, InvalidKind, InvalidNumber
from leftfirst.errors import Missing, TooLarge
from leftfirst.outcome import always_asked, outcome, outcome_code, outcome_count, outcome_difference
from leftfirst.running import run, steady_run
from leftfirst.steady import is_steady, pruned, steady_count, unpruned
from leftfirst.texts import read
from tests.checks import Calls
from tests.samples import A, ANSWERS, B, all_assignments, bounds, chain, code_of_tree, flat, invalid_answers
from tests.samples import invalid_assignments, invalid_codes, invalid_conditions, invalid_kinds, invalid_names
from tests.samples import invalid_numbers, nested, nots, random_code, random_conditions, unchanged

ROWS = (("a", 1, "no"), ("b", "yes", "no"))
SOME = [None, True, 0, "", "a", (), [], {}, ["test", "a"], ("and", A), nots(80, A), flat("or", "a" * 61)]
SOME_CODES = [None, True, 0, "yes", (), [], {}, list(ROWS), (["a", "yes", "no"],), (("a", 0, "no"),), chain(61), A]


class WrongConditions(Calls):
    def test_functions_of_one_condition(self):
        for function in [code, pruned, always_asked, outcome_code]:
            for value in invalid_conditions():
                self.check(InvalidCondition, function, value)

    def test_the_first_of_two_arguments(self):
        for value in invalid_conditions():
            self.check(InvalidCondition, run, value, ["yes"])
            self.check(InvalidCondition, steady_run, value, (("a", "yes"),))
            self.check(InvalidCondition, outcome, value, (("a", "fails"),))
            self.check(InvalidCondition, outcome_difference, value, A)

    def test_the_first_one_where_the_second_one_is_wrong_too(self):
        for value in SOME:
            for second in [None, ("yes",), ["maybe"], ["yes"] * 201, (("a", "maybe"),), [("a", "yes")], ("and", A)]:
                self.check(InvalidCondition, run, value, second)
                self.check(InvalidCondition, steady_run, value, second)
                self.check(InvalidCondition, outcome, value, second)
                self.check(InvalidCondition, outcome_difference, value, second)

    def test_the_second_one(self):
        for value in invalid_conditions():
            self.check(InvalidCondition, outcome_difference, A, value)
            self.check(InvalidCondition, outcome_difference, flat("or", "abcdefgh"), value)


class WrongAnswers(Calls):
    def test_answers(self):
        for value in invalid_answers():
            self.check(InvalidAnswers, run, ("and", A, B), value)
            self.check(InvalidAnswers, run_code, ROWS, value)

    def test_answers_that_would_not_be_needed(self):
        self.check(InvalidAnswers, run, A, ["yes", "maybe"])
        self.check(InvalidAnswers, run, A, ["fails", None])
        self.check(InvalidAnswers, run_code, (("a", "no", "no"),), ["yes"] * 199 + [True])

    def test_two_hundred_answers_and_one_more(self):
        for answer in ANSWERS:
            self.assertEqual(run(A, [answer] * 200)[0], ("a",))
            self.assertEqual(run_code(ROWS, [answer] * 200)[0][0], "a")
            self.check(InvalidAnswers, run, A, [answer] * 201)
            self.check(InvalidAnswers, run_code, ROWS, [answer] * 201)


class WrongAssignments(Calls):
    def test_assignments(self):
        for value in invalid_assignments():
            self.check(InvalidAssignment, steady_run, ("and", A, B), value)

    def test_outcome_assignments(self):
        for value in invalid_assignments(("yes", "no", "fails")):
            self.check(InvalidAssignment, outcome, ("and", A, B), value)

    def test_fails_is_an_answer_of_an_outcome_assignment_only(self):
        self.check(InvalidAssignment, steady_run, A, (("a", "fails"),))
        self.check(InvalidAssignment, steady_run, A, (("a", "yes"), ("b", "fails")))
        self.assertEqual(outcome(A, (("a", "fails"),)), "failed")
        self.assertEqual(outcome(A, (("a", "yes"), ("b", "fails"))), "yes")

    def test_assignments_are_checked_before_what_is_missing(self):
        for value in [(("c", "maybe"),), (("c", "yes"), ("b", "yes")), [("c", "yes")]]:
            self.check(InvalidAssignment, steady_run, A, value)
            self.check(InvalidAssignment, outcome, A, value)
        self.check(Missing, steady_run, A, (("c", "yes"),))
        self.check(Missing, outcome, A, (("c", "fails"),))

    def test_eight_names_and_one_more(self):
        for number in range(10):
            value = tuple([(name, "yes") for name in "abcdefghi"[:number]])
            for function in (steady_run, outcome):
                if number == 0:
                    self.check(Missing, function, A, value)
                elif number == 9:
                    self.check(InvalidAssignment, function, A, value)
                else:
                    self.assertIn(function(A, value), [(("a",), "yes"), "yes"])


class WrongCodes(Calls):
    def test_functions_of_one_code(self):
        for value in [*invalid_codes(), *invalid_conditions()]:
            for function in [turned, is_steady, unpruned]:
                self.check(InvalidCode, function, value)

    def test_each_position(self):
        for value in invalid_codes():
            self.check(InvalidCode, run_code, value, ["yes"])
            self.check(InvalidCode, joined, "and", value, ROWS)
            self.check(InvalidCode, joined, "or", ROWS, value)

    def test_where_later_arguments_are_wrong_too(self):
        for value in SOME_CODES:
            for answers in [None, (), ("yes",), ["maybe"], ["yes"] * 201]:
                self.check(InvalidCode, run_code, value, answers)
            for other in SOME_CODES:
                self.check(InvalidCode, joined, "and", value, other)

    def test_codes_are_checked_before_the_size_of_the_outcome(self):
        for value in SOME_CODES:
            self.check(InvalidCode, joined, "or", chain(60), value)
            self.check(InvalidCode, joined, "or", value, chain(60))
        self.check(TooLarge, joined, "or", chain(60), chain(60))

    def test_a_code_that_is_not_steady_is_a_code(self):
        self.assertIs(is_steady(chain(60)), False)
        self.assertIsNone(unpruned(chain(60)))


class WrongKinds(Calls):
    def test_kinds(self):
        for value in invalid_kinds():
            self.check(InvalidKind, joined, value, ROWS, ROWS)

    def test_kinds_come_first(self):
        for value in invalid_kinds():
            self.check(InvalidKind, joined, value, None, ROWS)
            self.check(InvalidKind, joined, value, ROWS, None)
            self.check(InvalidKind, joined, value, chain(61), [])
            self.check(InvalidKind, joined, value, chain(60), chain(60))


class WrongNumbers(Calls):
    def test_numbers(self):
        for function in (steady_count, outcome_count):
            for value in invalid_numbers(0, 8):
                self.check(InvalidNumber, function, value)

    def test_true_and_false_are_no_integers(self):
        for function in (steady_count, outcome_count):
            self.check(InvalidNumber, function, True)
            self.check(InvalidNumber, function, False)
            self.assertEqual([function(0), function(1)], [0, 4])


class ByName(Calls):
    def test_functions_of_one_argument(self):
        condition = read("a and (b or not a)")
        self.check_orders(code, (("a", 1, "no"), ("b", "yes", 2), ("a", "no", "yes")), condition=condition)
        self.check_orders(is_code, True, value=ROWS)
        self.check_orders(turned, (("a", 1, "yes"), ("b", "no", "yes")), code=ROWS)
        self.check_orders(pruned, ROWS, condition=condition)
        self.check_orders(is_steady, True, code=ROWS)
        self.check_orders(unpruned, ("and", A, B), code=ROWS)
        self.check_orders(steady_count, 72, number=2)
        self.check_orders(always_asked, ("a",), condition=condition)
        self.check_orders(outcome_code, ROWS, condition=condition)
        self.check_orders(outcome_count, 56, number=2)

    def test_functions_of_several_arguments_in_any_order(self):
        condition = read("a and (b or not a)")
        self.check_orders(run, (("a", "b"), "yes"), condition=condition, answers=["yes", "yes"])
        self.check_orders(steady_run, (("a", "b"), "no"), condition=condition, assignment=(("a", "yes"), ("b", "no")))
        self.check_orders(run_code, (("a", "b"), "open"), code=ROWS, answers=["yes"])
        self.check_orders(joined, (("c", "yes", 1), ("a", 2, "no"), ("b", "yes", "no")),
                          kind="or", code=(("c", "yes", "no"),), other=ROWS)
        self.check_orders(outcome, "failed", condition=condition, answered=(("a", "yes"), ("b", "fails")))
        self.check_orders(outcome_difference, (("a", "no"),), one=read("a or not a"), other=A)
        self.check_orders(outcome_difference, None, one=condition, other=("and", A, B))

    def test_the_first_argument_in_the_order_of_the_signature_counts(self):
        self.assertRaises(InvalidCondition, run, answers=None, condition=None)
        self.assertRaises(InvalidCondition, steady_run, assignment=None, condition=None)
        self.assertRaises(InvalidCode, run_code, answers=None, code=None)
        self.assertRaises(InvalidKind, joined, other=None, code=None, kind=None)
        self.assertRaises(InvalidCode, joined, other=None, code=None, kind="and")
        self.assertRaises(InvalidCondition, outcome, answered=None, condition=None)
        self.assertRaises(InvalidAssignment, outcome, answered=None, condition=A)
        self.assertRaises(InvalidCondition, outcome_difference, other=None, one=None)


class Unchanged(Calls):
    def test_nothing_is_modified_and_the_same_is_returned_again(self):
        condition = ("if", ("and", A, B), ("or", ("test", "c"), A), ("not", B))
        answers = ["yes", "no", "fails", "yes"]
        assignment = (("a", "yes"), ("b", "no"), ("c", "yes"))
        rows = code(condition)
        for function, *arguments in [
            (run, condition, answers), (run, condition, []), (steady_run, condition, assignment), (code, condition),
            (is_code, rows), (is_code, list(rows)), (run_code, rows, answers), (run_code, rows, []), (turned, rows),
            (joined, "and", rows, rows), (joined, "or", rows, rows), (pruned, condition), (is_steady, rows),
            (unpruned, rows), (unpruned, ROWS), (steady_count, 8), (outcome, condition, assignment),
            (always_asked, condition), (outcome_code, condition), (outcome_difference, condition, A), (outcome_count, 8),
        ]:
            with self.subTest(function.__name__):
                self.assertEqual(unchanged(self, function, *arguments), function(*arguments))

    def test_answers_stay_the_callers(self):
        answers = ["yes", "no"]
        self.assertEqual(run(("and", A, B), answers), (("a", "b"), "no"))
        self.assertEqual(answers, ["yes", "no"])
        answers.append("maybe")
        self.assertRaises(InvalidAnswers, run, ("and", A, B), answers)


class Time(Calls):
    def check_condition(self, condition):
        """Check how long all functions of a condition take, and all functions of its codes."""
        letters = "abcdefgh"
        for answers in [["yes"] * 200, ["no"] * 200, ["yes", "no"] * 100, ["no", "yes"] * 100]:
            self.check_time(run, condition, answers)
        for assignment in all_assignments(letters)[::37]:
            self.check_time(steady_run, condition, assignment)
            self.check_time(outcome, condition, assignment)
        self.check_time(always_asked, condition)
        self.check_time(outcome_difference, condition, condition)
        self.check_time(outcome_difference, condition, flat("and", letters))
        self.check_time(outcome_difference, A, condition)
        self.check_code(self.check_time(code, condition))
        for function in (pruned, outcome_code):
            try:
                self.check_code(self.check_time(function, condition))
            except TooLarge:
                self.check(TooLarge, function, condition)

    def check_code(self, rows):
        """Check how long all functions of a code take."""
        self.assertIs(self.check_time(is_code, rows), True)
        self.check_time(turned, rows)
        self.check_time(is_steady, rows)
        for function, *arguments in [(unpruned, rows), (joined, "and", rows, rows), (joined, "or", rows, turned(rows))]:
            try:
                self.check_time(function, *arguments)
            except TooLarge:
                self.check(TooLarge, function, *arguments)
        for answer in ("yes", "no"):
            self.check_time(run_code, rows, [answer] * 200)

    def test_conditions_at_the_bounds(self):
        for name, (condition, _) in bounds().items():
            if {*tests(condition)} <= {*"abcdefgh"}:
                with self.subTest(name):
                    self.check_condition(condition)

    def test_conditions_with_sixty_tests_and_eight_names(self):
        found = [condition for condition in random_conditions(400, 60, "abcdefgh", seed=9) if len(tests(condition)) > 57]
        self.assertGreater(len(found), 5)
        for condition in found:
            self.check_condition(condition)

    def test_conditions_that_ask_all_names_whatever_they_answer(self):
        ask = " and ".join([f"({name} or not {name})" for name in "hgfedcba"])
        self.check_condition(read(f"{ask} and (a and e or b and f or c and g or d and h or a and b and c and d)"))
        choice = A
        for name in ("bcdefgh" * 4)[:21]:
            choice = ("if", choice, ("not", ("test", name)), ("test", name))
        condition = ("and", read(ask), choice)
        self.assertEqual(len(tests(condition)), 59)
        self.check_condition(condition)

    def test_codes_with_sixty_rows(self):
        source = random.Random(10)
        for letters in ("a", "abcdefgh"):
            self.check_code(chain(60, letters))
            rows = [(letters[k % len(letters)], k + 1, k + 1) for k in range(59)]
            self.check_code((*rows, ("a", "yes", "no")))
        for _ in range(20):
            rows = random_code(source, 60)
            self.assertEqual(len(rows), 60)
            self.check_code(rows)

    def test_steady_codes_with_many_rows(self):
        source = random.Random(11)
        for _ in range(40):
            rows = code_of_tree(layered(source, "abcdefgh"))
            if len(rows) <= 60:
                self.assertIs(is_steady(rows), True)
                self.check_code(rows)

    def test_any_value_is_taken_by_is_code(self):
        for value in [*invalid_codes(), *invalid_conditions(), *invalid_names(), nested(99, tuple), nested(99, dict)]:
            self.assertIs(self.check_time(is_code, value), False)

    def test_the_largest_counts(self):
        self.assertGreater(self.check_time(steady_count, 8), 10 ** 150)
        self.assertGreater(self.check_time(outcome_count, 8), 10 ** 130)


def layered(source, letters):
    """A steady tree that asks all these names on each way, and has few different trees of each depth."""
    trees = ["yes", "no"]
    for name in reversed(letters):
        pairs = [(source.choice(trees), source.choice(trees)) for _ in range(min(12, 2 * len(trees) + 1))]
        trees = [(name, yes, no) for yes, no in pairs]
    return trees[0]


if __name__ == "__main__":
    unittest.main()
