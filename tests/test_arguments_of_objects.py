"""Points 7 and 8 for machines, truth, counting and objects: wrong arguments, by name, unchanged, and the time."""

import random
import unittest

from leftfirst.codes import code
from leftfirst.conditions import is_condition, names, tests
from leftfirst.counting import count, normals, ways
from leftfirst.errors import InvalidAnswers, InvalidAssignment, InvalidCode, InvalidCondition, InvalidMachine, InvalidName
from leftfirst.errors import InvalidNames, InvalidNumber, InvalidText, Missing, TooLarge
from leftfirst.machines import code_of, instructions, is_machine, machine, run_machine
from leftfirst.objects import Asker, Condition, SteadyAsker
from leftfirst.texts import read, write
from leftfirst.truth import askings, cheapest, fewest_askings, implies, table
from tests.checks import Calls
from tests.samples import A, ANSWERS, B, bounds, chain, flat, invalid_answers, invalid_assignments, invalid_codes
from tests.samples import invalid_conditions, invalid_machines, invalid_names, invalid_names_tuples, invalid_numbers
from tests.samples import nested, nots, random_code, random_conditions, unchanged

BOTH = (("jump", "a", "no", "no"), ("jump", "b", "yes", "yes"), ("goto", "no"))
PAIR = (("a", "yes"), ("b", "no"))
SOME = [None, True, 0, "", "a", (), [], {}, ["test", "a"], ("and", A), nots(80, A), flat("or", "a" * 61)]
SOME_OTHERS = [None, True, 0, -1, 99, "", "fails", ("b", "a"), ["a"], {}, ("yes",), [("a", "yes")], ["maybe"]]
EIGHT, NINTH = flat("or", "abcdefgh"), ("test", "i")


def first_normal(number, names):
    """The first normal form: an error may be raised by the call, or when it is asked for."""
    return next(normals(number, names))


class WrongMachines(Calls):
    def test_machines(self):
        for value in [*invalid_machines(), *invalid_codes()[::7], *invalid_conditions()[::7]]:
            self.check(InvalidMachine, code_of, value)
            self.check(InvalidMachine, run_machine, value, ["yes"])

    def test_machines_where_the_answers_are_wrong_too(self):
        for value in invalid_machines()[::5]:
            for answers in SOME_OTHERS:
                self.check(InvalidMachine, run_machine, value, answers)

    def test_answers(self):
        for value in invalid_answers():
            self.check(InvalidAnswers, run_machine, BOTH, value)
            self.check(InvalidAnswers, run_machine, (("goto", "yes"),), value)

    def test_two_hundred_answers_and_one_more(self):
        for answer in ANSWERS:
            self.assertEqual(run_machine(BOTH, [answer] * 200)[0][0], "a")
            self.check(InvalidAnswers, run_machine, BOTH, [answer] * 201)

    def test_codes(self):
        for value in [*invalid_codes(), *invalid_machines()[::7], *invalid_conditions()[::7]]:
            self.check(InvalidCode, machine, value)
            self.check(InvalidCode, instructions, value)


class WrongConditions(Calls):
    def test_functions_of_one_condition(self):
        for value in invalid_conditions():
            for function in [askings, fewest_askings, cheapest]:
                self.check(InvalidCondition, function, value)
            self.check(InvalidCondition, table, value, ("a",))

    def test_each_position(self):
        for value in invalid_conditions():
            self.check(InvalidCondition, implies, value, A)
            self.check(InvalidCondition, implies, A, value)

    def test_where_later_arguments_are_wrong_too(self):
        for value in SOME:
            for other in SOME_OTHERS:
                self.check(InvalidCondition, table, value, other)
                self.check(InvalidCondition, implies, value, other)

    def test_conditions_are_checked_before_further_conditions(self):
        for value in SOME:
            self.check(InvalidCondition, implies, EIGHT, value)
            self.check(InvalidCondition, implies, value, EIGHT)
        self.check(TooLarge, implies, EIGHT, NINTH)
        for function in (fewest_askings, cheapest):
            self.check(InvalidCondition, function, flat("and", "abcdefghi"))
            self.check(InvalidCondition, function, flat("and", "abcdefg" * 9))
            self.check(TooLarge, function, flat("and", "abcdefg"))


class WrongNames(Calls):
    def test_names(self):
        for value in invalid_names_tuples():
            self.check(InvalidNames, table, ("and", A, B), value)
            for number in (1, 2, 3):
                self.check(InvalidNames, first_normal, number, value)

    def test_names_are_checked_before_what_is_missing(self):
        for value in [("c", "b"), ("b", "b"), ["c"], (), ("C",), tuple("bcdefghij")]:
            self.check(InvalidNames, table, A, value)
        self.check(Missing, table, A, ("b", "c"))


class WrongNumbers(Calls):
    def test_the_first_number(self):
        for function, least, most, second in [(count, 1, 60, 1), (ways, 0, 6, 1), (first_normal, 1, 3, ("a",))]:
            for value in invalid_numbers(least, most):
                self.check(InvalidNumber, function, value, second)
            for number in range(least, most + 1):
                function(number, second)

    def test_the_second_number(self):
        for function in (count, ways):
            for value in invalid_numbers(1, 8):
                self.check(InvalidNumber, function, 1, value)
            for number in range(1, 9):
                function(1, number)

    def test_true_and_false_are_no_integers(self):
        for value in (True, False):
            for function in (count, ways):
                self.check(InvalidNumber, function, value, 1)
                self.check(InvalidNumber, function, 1, value)
            self.check(InvalidNumber, first_normal, value, ("a",))

    def test_the_number_is_checked_before_the_names(self):
        for value in invalid_names_tuples():
            for number in (0, 4, True, None, "1"):
                self.check(InvalidNumber, first_normal, number, value)


class ByName(Calls):
    def test_functions(self):
        self.check_orders(is_machine, True, value=BOTH)
        self.check_orders(run_machine, (("a", "b"), "no"), machine=BOTH, answers=["yes", "no"])
        self.check_orders(instructions, 3, code=(("a", 1, "no"), ("b", "yes", "no")))
        self.check_orders(machine, machine((("a", "yes", "no"),)), code=(("a", "yes", "no"),))
        self.check_orders(code_of, (("a", 1, "no"), ("b", "yes", "no")), machine=BOTH)
        self.check_orders(table, ["no", "no", "no", "yes"], condition=("and", A, B), names=("a", "b"))
        self.check_orders(implies, True, one=("and", A, B), other=A)
        self.check_orders(askings, 2, condition=("and", A, B))
        self.check_orders(fewest_askings, 1, condition=("and", A, A))
        self.check_orders(cheapest, (("a", "yes", "no"),), condition=("and", A, A))
        self.check_orders(count, 32, number=2, size=2)
        self.check_orders(ways, 14, number=2, size=1)
        self.check_orders(first_normal, A, number=1, names=("a",))
        self.assertEqual(next(normals(names=("b",), number=1)), B)

    def test_the_first_argument_in_the_order_of_the_signature_counts(self):
        self.assertRaises(InvalidMachine, run_machine, answers=None, machine=None)
        self.assertRaises(InvalidAnswers, run_machine, answers=None, machine=BOTH)
        self.assertRaises(InvalidCondition, table, names=None, condition=None)
        self.assertRaises(InvalidNames, table, names=None, condition=A)
        self.assertRaises(InvalidCondition, implies, other=None, one=None)
        self.assertRaises(InvalidNumber, first_normal, names=None, number=None)
        self.assertRaises(InvalidNames, first_normal, names=None, number=1)


class Objects(Calls):
    def test_constructors_and_methods(self):
        for value in invalid_conditions():
            self.check(InvalidCondition, Condition, value)
            self.check(InvalidCondition, Asker(PAIR).ask, value)
        for value in invalid_assignments():
            self.check(InvalidAssignment, Asker, value)
            self.check(InvalidAssignment, SteadyAsker, value)
        for value in [None, "", "A", "a and", "(a)", 1, ("test", "a"), ["a"], nested(99, list), "a" * 30000]:
            self.check(InvalidText, Condition.of_text, value)

    def test_methods_of_askers(self):
        for make in (Asker, SteadyAsker):
            for value in invalid_names():
                self.check(InvalidName, make(PAIR).times, value)
                for answer in ("yes", None, "fails"):
                    self.check(InvalidName, make(PAIR).change, value, answer)
            for value in [value for value in SOME_OTHERS if value != "yes"]:
                self.check(InvalidAnswers, make(PAIR).change, "a", value)


class Unchanged(Calls):
    def test_nothing_is_modified_and_the_same_is_returned_again(self):
        condition = read("not (a and (b or c) and not a) or (c if b else a)")
        rows = code(condition)
        for function, *arguments in [
            (is_machine, BOTH), (is_machine, list(BOTH)), (run_machine, BOTH, ["yes", "no", "fails"]),
            (run_machine, BOTH, []),
            (machine, rows), (instructions, rows), (code_of, BOTH), (code_of, machine(rows)),
            (table, condition, ("a", "b", "c")),
            (implies, condition, A), (askings, condition), (fewest_askings, condition), (cheapest, condition),
            (count, 60, 8),
            (first_normal, 3, ("a", "b")), (ways, 6, 8),
        ]:
            with self.subTest(function.__name__):
                self.assertEqual(unchanged(self, function, *arguments), function(*arguments))

    def test_answers_stay_the_callers(self):
        answers = ["yes", "no"]
        one = Condition(("and", A, B))
        for run in (one, lambda given: run_machine(BOTH, given)):
            self.assertEqual(run(answers), (("a", "b"), "no"))
            self.assertEqual(answers, ["yes", "no"])


class Time(Calls):
    def check_condition(self, condition):
        """Check how long all functions of truth and all methods take for this condition."""
        own = names(condition)
        self.check_time(table, condition, own)
        if {*own} <= {*"abcdefgh"}:
            self.check_time(table, condition, tuple("abcdefgh"))
        self.check_time(implies, condition, condition)
        self.check_time(implies, condition, ("test", own[0]))
        self.check_time(askings, condition)
        for function in (fewest_askings, cheapest):
            if len(own) <= 6:
                self.check_time(function, condition)
            else:
                self.check(TooLarge, function, condition)
        one = self.check_time(Condition, condition)
        self.assertIs(self.check_time(one.__eq__, Condition(condition)), True)
        self.check_time(one.__call__, ["yes", "no"] * 100)
        self.assertEqual(self.check_time(one.__len__), len(tests(condition)))
        for make in (Asker, SteadyAsker):
            asker = make(tuple([(name, "yes") for name in own]))
            for _ in range(5):
                self.check_time(asker.ask, condition)
                asker.change(own[0], "no")

    def test_conditions_at_the_bounds(self):
        for name, (condition, _) in bounds().items():
            with self.subTest(name):
                self.check_condition(condition)

    def test_conditions_with_sixty_tests(self):
        for letters, seed in [("abcdefgh", 41), ("abcdef", 42)]:
            found = [condition for condition in random_conditions(300, 60, letters,
                                                                  seed=seed) if len(tests(condition)) > 57]
            self.assertGreater(len(found), 5)
            for condition in found:
                self.check_condition(condition)

    def test_conditions_with_six_names_that_ask_all_of_them(self):
        parity = A
        for name in "bcdef" * 5:
            parity = ("if", parity, ("not", ("test", name)), ("test", name))
        most = read("a and b and c or a and d and e or b and d and f or c and e and f or a and e and f or b and c and d")
        for condition in [parity, most, ("if", most, ("not", most), most),
                          ("and", read("a or not a"), flat("or", "bcdef"), most)]:
            self.assertIs(is_condition(condition), True)
            self.check_condition(condition)

    def test_codes_with_sixty_rows(self):
        source = random.Random(43)
        codes = [chain(60), chain(60, "a"), *[random_code(source, 60) for _ in range(60)]]
        codes.append(tuple([("abcdefgh"[k % 8], k + 1, k + 1) for k in range(59)] + [("a", "yes", "no")]))
        # Each row leads to the next one and to the one after that.
        codes.append(tuple([("abcdefgh"[k % 8], k + 1, min(k + 2, 59)) for k in range(59)] + [("a", "yes", "no")]))
        for rows in codes:
            steps = self.check_time(machine, rows)
            self.assertEqual(self.check_time(instructions, rows), len(steps))
            self.assertEqual(self.check_time(code_of, steps), rows)
            self.assertIs(self.check_time(is_machine, steps), True)
            self.check_time(run_machine, steps, ["yes", "no"] * 100)

    def test_machines_with_one_hundred_and_twenty_instructions(self):
        gotos = (*[("goto", k + 1) for k in range(119)], ("goto", "yes"))
        jumps = (*[("jump", "abcdefgh"[k % 8], "no", min(k + 2, 119)) for k in range(119)], ("goto", "yes"))
        mixed = (*[("goto", k + 1) if k % 3 else ("jump", "a", "yes", min(k + 5, 119)) for k in range(119)],
                 ("goto", "yes"))
        backwards = (("goto", 118), ("goto", "yes"), *[("goto", k + 1) for k in range(117)], ("goto", "no"))
        for steps in (gotos, jumps, mixed, backwards):
            self.assertIs(self.check_time(is_machine, steps), True)
            self.check_time(run_machine, steps, ["yes"] * 200)
            if steps == jumps:
                self.check(TooLarge, code_of, steps)
            else:
                self.check_time(code_of, steps)

    def test_any_value_is_taken_by_is_machine(self):
        for value in [*invalid_machines(), *invalid_codes(), *invalid_conditions(), *invalid_names()]:
            self.assertIs(self.check_time(is_machine, value), False)

    def test_the_largest_counts(self):
        self.assertGreater(self.check_time(count, 60, 8), 10 ** 110)
        self.assertGreater(self.check_time(ways, 6, 8), 10 ** 60)

    def test_each_next_normal_form(self):
        iterator = self.check_time(normals, 3, tuple("abcdefgh"))
        found = [self.check_time(next, iterator) for _ in range(count(3, 8))]
        self.assertEqual([write(form) for form in found[:2]], ["(a or a) and a", "(a or a) and b"])
        self.assertRaises(StopIteration, next, iterator)


if __name__ == "__main__":
    unittest.main()
