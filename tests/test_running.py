"""Points 4 and 11: how a condition is evaluated, with answers in a list and in an assignment."""

import unittest

from leftfirst import running
from leftfirst.conditions import names, tests
from leftfirst.errors import Missing
from leftfirst.running import run, steady_run
from leftfirst.texts import read
from tests.samples import A, ANSWERS, B, all_assignments, bounds, flat, nots, random_conditions, small_conditions
from tests.samples import told, told_steadily, ways

YES, NO, FAILS = "yes", "no", "fails"


class Examples(unittest.TestCase):
    def test_run(self):
        condition = read("a and (b or not a)")
        self.assertEqual(run(condition, ["yes", "no", "yes"]), (("a", "b", "a"), "no"))
        self.assertEqual(run(condition, ["yes", "no", "no", "no"]), (("a", "b", "a"), "yes"))
        self.assertEqual(run(condition, ["yes"]), (("a", "b"), "open"))
        self.assertEqual(run(condition, ["fails"]), (("a",), "failed"))

    def test_steady_run(self):
        condition = read("a and (b or not a)")
        self.assertEqual(steady_run(condition, (("a", "yes"), ("b", "no"))), (("a", "b"), "no"))
        self.assertEqual(steady_run(condition, (("a", "no"),)), (("a",), "no"))


class EachKind(unittest.TestCase):
    def check(self, text, answers, asked, end):
        self.assertEqual(run(read(text), answers), (tuple(asked.split()), end), (text, answers))

    def test_a_test_ends_with_its_answer(self):
        self.check("a", [YES], "a", "yes")
        self.check("a", [NO], "a", "no")
        self.check("a", [FAILS], "a", "failed")
        self.check("a", [], "a", "open")

    def test_not_ends_the_other_way(self):
        self.check("not a", [YES], "a", "no")
        self.check("not a", [NO], "a", "yes")
        self.check("not a", [FAILS], "a", "failed")
        self.check("not not a", [YES], "a", "yes")
        self.check("not (a and b)", [YES, NO], "a b", "yes")
        self.check("not (a or b)", [YES], "a", "no")
        self.check("not (b if a else c)", [NO, NO], "a c", "yes")

    def test_and_goes_on_until_one_ends_with_no(self):
        self.check("a and b and c", [YES, YES, YES], "a b c", "yes")
        self.check("a and b and c", [NO], "a", "no")
        self.check("a and b and c", [YES, NO], "a b", "no")
        self.check("a and b and c", [YES, YES, NO], "a b c", "no")

    def test_or_goes_on_until_one_ends_with_yes(self):
        self.check("a or b or c", [NO, NO, NO], "a b c", "no")
        self.check("a or b or c", [YES], "a", "yes")
        self.check("a or b or c", [NO, YES], "a b", "yes")
        self.check("a or b or c", [NO, NO, YES], "a b c", "yes")

    def test_if_evaluates_one_of_the_two(self):
        self.check("b if a else c", [YES, YES], "a b", "yes")
        self.check("b if a else c", [YES, NO], "a b", "no")
        self.check("b if a else c", [NO, YES], "a c", "yes")
        self.check("b if a else c", [NO, NO], "a c", "no")
        self.check("b if a else b", [NO, YES], "a b", "yes")
        self.check("a if (b if a else c) else b", [NO, YES, NO], "a c a", "no")

    def test_kinds_in_each_other(self):
        self.check("(a or b) and c", [NO, YES, YES], "a b c", "yes")
        self.check("(a or b) and c", [YES, NO], "a c", "no")
        self.check("(a or b) and c", [NO, NO], "a b", "no")
        self.check("a and b or c and d", [YES, NO, YES, YES], "a b c d", "yes")
        self.check("not (a and b) or not c", [YES, YES, NO], "a b c", "yes")
        self.check("(a and b if c or d else not a) or b", [NO, NO, YES, NO], "c d a b", "no")

    def test_each_asking_takes_an_answer_of_its_own(self):
        self.check("a and a and a", [YES, YES, NO], "a a a", "no")
        self.check("a and not a", [YES, NO], "a a", "yes")
        self.check("a or a", [NO, YES], "a a", "yes")

    def test_a_test_that_fails_ends_the_whole_evaluation(self):
        self.check("a and b", [FAILS, YES], "a", "failed")
        self.check("a or b", [FAILS, YES], "a", "failed")
        self.check("b if a else c", [FAILS, YES], "a", "failed")
        self.check("not not a", [FAILS], "a", "failed")
        self.check("a and b or c", [YES, FAILS, YES], "a b", "failed")
        self.check("(b if a else c) or d", [NO, FAILS, YES], "a c", "failed")
        self.check("a or not b and c", [NO, NO, FAILS], "a b c", "failed")


class Answers(unittest.TestCase):
    def test_none_too_few_just_enough_and_more_than_needed(self):
        condition = flat("and", "abcd")
        for number in range(4):
            self.assertEqual(run(condition, ["yes"] * number), (tuple("abcd"[:number + 1]), "open"))
        for number in (4, 5, 6, 100):
            self.assertEqual(run(condition, ["yes"] * number), (tuple("abcd"), "yes"))

    def test_answers_that_are_not_needed_are_ignored_whatever_they_are(self):
        for more in [["yes"], ["no"], ["fails"], ["fails", "no", "yes"] * 50]:
            self.assertEqual(run(("and", A, B), ["no", *more]), (("a",), "no"))
            self.assertEqual(run(("and", A, B), ["yes", "yes", *more]), (("a", "b"), "yes"))
            self.assertEqual(run(("and", A, B), ["fails", *more]), (("a",), "failed"))

    def test_two_hundred_answers(self):
        self.assertEqual(run(("or", A, B), ["no"] * 200), (("a", "b"), "no"))
        self.assertEqual(run(flat("or", "a" * 60), ["no"] * 199 + ["fails"]), (("a",) * 60, "no"))

    def test_failing_at_the_first_a_middle_and_the_last_asking(self):
        condition = flat("and", "abcde")
        for at in range(5):
            answers = ["yes"] * at + ["fails"]
            self.assertEqual(run(condition, answers), (tuple("abcde"[:at + 1]), "failed"))
            self.assertEqual(run(condition, [*answers, *["yes"] * (4 - at)]), (tuple("abcde"[:at + 1]), "failed"))
        most = flat("or", "abc" * 20)
        self.assertEqual(run(most, ["no"] * 59 + ["fails"]), (tuple("abc" * 20), "failed"))
        self.assertEqual(run(most, ["no"] * 59), (tuple("abc" * 20), "open"))

    def test_what_is_returned(self):
        for outcome in [run(A, []), run(A, ["yes"]), run(A, ["fails"]), steady_run(A, (("a", "yes"),))]:
            self.assertIs(type(outcome), tuple)
            self.assertIs(type(outcome[0]), tuple)
            self.assertIs(type(outcome[1]), str)


class AllWays(unittest.TestCase):
    def test_small_conditions_for_all_answers(self):
        for condition in small_conditions()[:2400:5]:
            for answers in ways(lambda answers: told(condition, answers)):
                for number in range(len(answers) + 1):
                    self.assertEqual(run(condition, answers[:number]), told(condition, answers[:number]))

    def test_random_conditions(self):
        for k, condition in enumerate(random_conditions(300, 60, "abcde")):
            for turn in range(6):
                answers = [ANSWERS[(k * 7 + place * place + turn * place) % (2 if turn < 4 else 3)] for place in range(70)]
                self.assertEqual(run(condition, answers), told(condition, answers))

    def test_at_the_bounds(self):
        for name, (condition, _) in bounds().items():
            with self.subTest(name):
                for answers in [["yes"] * 60, ["no"] * 60, ["yes", "no"] * 30, ["no", "yes"] * 30, ["no", "fails"], []]:
                    self.assertEqual(run(condition, answers), told(condition, answers))

    def test_many_nots(self):
        for number in (1, 2, 78, 79):
            self.assertEqual(run(nots(number, A), ["yes"]), (("a",), "no" if number % 2 else "yes"))


class Steadily(unittest.TestCase):
    def test_names_that_stand_twice_are_asked_once(self):
        assignment = (("a", "yes"), ("b", "no"))
        self.assertEqual(steady_run(read("a and a and a"), assignment), (("a",), "yes"))
        self.assertEqual(steady_run(read("a and b or a"), assignment), (("a", "b"), "yes"))
        self.assertEqual(steady_run(read("b or not b and b or a"), assignment), (("b", "a"), "yes"))
        self.assertEqual(steady_run(read("a and not a"), assignment), (("a",), "no"))
        self.assertEqual(steady_run(read("b if a else a"), assignment), (("a", "b"), "no"))
        self.assertEqual(steady_run(read("(a if b else b) or b or a"), assignment), (("b", "a"), "yes"))

    def test_asked_is_in_the_order_of_the_askings(self):
        assignment = tuple([(name, "yes") for name in "abcdefgh"])
        self.assertEqual(steady_run(flat("and", "hgfedcbahgfedcba"), assignment), (tuple("hgfedcba"), "yes"))

    def test_names_that_are_not_in_the_condition_are_ignored(self):
        self.assertEqual(steady_run(("or", A, B), (("a", "no"), ("b", "no"), ("c", "yes"))), (("a", "b"), "no"))
        self.assertEqual(steady_run(A, tuple([(name, "no") for name in "abcdefgh"])), (("a",), "no"))

    def check_missing(self, text, assignment, name):
        with self.assertRaises(Missing) as caught:
            steady_run(read(text), assignment)
        self.assertIs(type(caught.exception), Missing)
        self.assertEqual(caught.exception.name, name)

    def test_the_first_name_that_is_asked_and_not_there(self):
        self.check_missing("a", (), "a")
        self.check_missing("b and a", (), "b")
        self.check_missing("b and a", (("a", "yes"),), "b")
        self.check_missing("b and a", (("b", "yes"),), "a")
        self.check_missing("d or c or b or a", (("a", "no"), ("d", "no")), "c")
        self.check_missing("a and a and c and b", (("a", "yes"),), "c")
        self.check_missing("c if a else b", (("a", "no"), ("c", "no")), "b")
        self.check_missing("a", (("aa", "yes"), ("b", "yes")), "a")

    def test_names_that_are_not_asked_may_be_missing(self):
        self.assertEqual(steady_run(read("a and b"), (("a", "no"),)), (("a",), "no"))
        self.assertEqual(steady_run(read("a or b or c"), (("a", "no"), ("b", "yes"))), (("a", "b"), "yes"))
        self.assertEqual(steady_run(read("c if a else b"), (("a", "no"), ("b", "yes"))), (("a", "b"), "yes"))
        self.assertEqual(steady_run(read("a or not a or b"), (("a", "no"),)), (("a",), "yes"))

    def test_all_assignments_also_such_that_lack_names(self):
        conditions = [*small_conditions()[:2400:13], *random_conditions(60, 60, "abcde")]
        for condition in conditions:
            own = names(condition)
            for assignment in all_assignments(own):
                self.assertEqual(steady_run(condition, assignment), told_steadily(condition, dict(assignment)))
                for k in range(len(own)):
                    self.check_less(condition, assignment[:k] + assignment[k + 1:])

    def check_less(self, condition, assignment):
        try:
            expected = told_steadily(condition, dict(assignment))
        except KeyError as missing:
            with self.assertRaises(Missing) as caught:
                steady_run(condition, assignment)
            self.assertEqual(caught.exception.name, missing.args[0])
        else:
            self.assertEqual(steady_run(condition, assignment), expected)

    def test_eight_names(self):
        condition = flat("and", "abcdefgh" * 7)
        for k in range(8):
            assignment = tuple([(name, "no" if name == "abcdefgh"[k] else "yes") for name in "abcdefgh"])
            self.assertEqual(steady_run(condition, assignment), (tuple("abcdefgh"[:k + 1]), "no"))

    def test_askings_without_repeats_are_those_of_run(self):
        for condition in [one for one in small_conditions()[:2400:7] if len(set(tests(one))) == len(tests(one))]:
            for assignment in all_assignments(names(condition)):
                asked, end = steady_run(condition, assignment)
                self.assertEqual(run(condition, [dict(assignment)[name] for name in asked]), (asked, end))


class Place(unittest.TestCase):
    def test_functions_are_defined_in_the_file_that_lists_them(self):
        for name in ["run", "steady_run"]:
            self.assertEqual(getattr(running, name).__module__, "leftfirst.running")


if __name__ == "__main__":
    unittest.main()
