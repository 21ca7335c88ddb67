"""Points 7 and 8 for equality, forms and shapes: wrong arguments, arguments by name, unchanged, and the time."""

import random
import unittest

from leftfirst.codes import code, joined
from leftfirst.conditions import is_condition, tests
from leftfirst.equality import difference, equal, memory_difference, memory_run, steady_difference, strongest
from leftfirst.equality import truth_difference
from leftfirst.errors import HasIf, InvalidAnswers, InvalidCode, InvalidCondition, InvalidKind, InvalidStrength
from leftfirst.errors import TooLarge
from leftfirst.forms import basic, factors, is_step, normal, root, way
from leftfirst.shapes import condition_of, factor_codes, parts, plain, plain_parts, shaped
from leftfirst.texts import read
from tests.checks import Calls
from tests.samples import A, B, C, bounds, chain, flat, invalid_codes, invalid_conditions, invalid_kinds
from tests.samples import invalid_memories, invalid_strengths, long_memory, nots, random_code, random_conditions, unchanged

ROWS = (("a", 1, "no"), ("b", "yes", "no"))
PAIRS = [strongest, difference, steady_difference, truth_difference, memory_difference, is_step, way]
OF_CODES = [parts, plain_parts, shaped, plain, condition_of]
SOME = [None, True, 0, "", "a", (), [], {}, ["test", "a"], ("and", A), nots(80, A), flat("or", "a" * 61)]
SOME_CODES = [None, True, 0, "yes", (), [], {}, list(ROWS), (["a", "yes", "no"],), (("a", 0, "no"),), chain(61), A]
SOME_OTHERS = [None, True, 0, "", "fails", ("free",), ["and"], {}, [("a", "yes")], "none", "if"]
EIGHT, NINTH = flat("or", "abcdefgh"), ("test", "i")
WITH_IF = read("b if a else c")


class WrongConditions(Calls):
    def test_functions_of_one_condition(self):
        for function in [normal, basic]:
            for value in invalid_conditions():
                self.check(InvalidCondition, function, value)

    def test_the_first_one(self):
        for value in invalid_conditions():
            for function in PAIRS:
                self.check(InvalidCondition, function, value, A)
            self.check(InvalidCondition, equal, value, A, "free")
            self.check(InvalidCondition, memory_run, value, [])
            self.check(InvalidCondition, factors, value, "and")
            self.check(InvalidCondition, root, value, "or")

    def test_the_first_one_where_later_ones_are_wrong_too(self):
        for value in SOME:
            for other in SOME:
                for function in PAIRS:
                    self.check(InvalidCondition, function, value, other)
                self.check(InvalidCondition, equal, value, other, "none")
            for other in SOME_OTHERS:
                self.check(InvalidCondition, equal, value, A, other)
                self.check(InvalidCondition, memory_run, value, other)
                self.check(InvalidCondition, factors, value, other)
                self.check(InvalidCondition, root, value, other)

    def test_the_second_one(self):
        for value in invalid_conditions():
            for function in PAIRS:
                self.check(InvalidCondition, function, A, value)
            self.check(InvalidCondition, equal, A, value, "truth")

    def test_the_second_one_where_the_strength_is_wrong_too(self):
        for value in SOME:
            for strength in SOME_OTHERS:
                self.check(InvalidCondition, equal, A, value, strength)

    def test_conditions_are_checked_before_their_names_are_counted(self):
        for value in SOME:
            for function in PAIRS:
                self.check(InvalidCondition, function, EIGHT, value)
                self.check(InvalidCondition, function, value, EIGHT)
        for function in PAIRS[:5] + [way]:
            self.check(TooLarge, function, EIGHT, NINTH)

    def test_is_step_takes_more_than_eight_names_together(self):
        self.assertIs(is_step(EIGHT, NINTH), False)
        self.assertIs(is_step(("not", EIGHT), NINTH), False)

    def test_conditions_are_checked_before_has_if(self):
        beyond = ("and", WITH_IF, flat("and", "a" * 58))
        for function, *more in [(normal,), (factors, "and"), (root, "or")]:
            self.check(InvalidCondition, function, beyond, *more)
            self.check(HasIf, function, ("and", WITH_IF, flat("and", "a" * 57)), *more)


class WrongStrengths(Calls):
    def test_strengths(self):
        for value in invalid_strengths():
            self.check(InvalidStrength, equal, A, A, value)
            self.check(InvalidStrength, equal, A, B, value)

    def test_strengths_are_checked_before_the_names_are_counted(self):
        for value in invalid_strengths():
            self.check(InvalidStrength, equal, EIGHT, NINTH, value)
        self.check(TooLarge, equal, EIGHT, NINTH, "free")


class WrongMemories(Calls):
    def test_memories(self):
        for value in invalid_memories():
            self.check(InvalidAnswers, memory_run, ("and", A, B), value)

    def test_what_is_wrong_behind_what_is_needed(self):
        self.check(InvalidAnswers, memory_run, A, [(("a",), "yes"), (("b",), "maybe")])
        self.check(InvalidAnswers, memory_run, A, [(("a",), "yes"), (("b",), "yes"), (("b",), "yes")])
        self.check(InvalidAnswers, memory_run, A, [*long_memory(199), None])

    def test_two_hundred_pairs_and_one_more(self):
        self.assertEqual(memory_run(A, long_memory(200)), (("a",), "no"))
        self.check(InvalidAnswers, memory_run, A, long_memory(201))

    def test_sixty_names_and_one_more(self):
        self.assertEqual(memory_run(A, [(("a",) * 60, "yes")]), (("a",), "open"))
        self.check(InvalidAnswers, memory_run, A, [(("a",) * 61, "yes")])
        self.assertEqual(memory_run(A, [(("aaaaaaaa",), "yes")]), (("a",), "open"))
        self.check(InvalidAnswers, memory_run, A, [(("aaaaaaaaa",), "yes")])


class WrongKinds(Calls):
    def test_kinds(self):
        for value in invalid_kinds():
            self.check(InvalidKind, factors, A, value)
            self.check(InvalidKind, root, A, value)
            self.check(InvalidKind, factor_codes, ROWS, value)

    def test_kinds_are_checked_before_further_conditions(self):
        for value in invalid_kinds():
            self.check(InvalidKind, factors, WITH_IF, value)
            self.check(InvalidKind, root, WITH_IF, value)
            self.check(InvalidKind, factor_codes, (("a", "yes", "yes"),), value)


class WrongCodes(Calls):
    def test_codes(self):
        for value in [*invalid_codes(), *invalid_conditions()]:
            for function in OF_CODES:
                self.check(InvalidCode, function, value)
            self.check(InvalidCode, factor_codes, value, "and")

    def test_where_the_kind_is_wrong_too(self):
        for value in SOME_CODES:
            for kind in SOME_OTHERS:
                self.check(InvalidCode, factor_codes, value, kind)


class ByName(Calls):
    def test_functions_of_one_argument(self):
        self.check_orders(normal, ("or", ("not", A), B), condition=read("not (a and not b)"))
        self.check_orders(basic, ("if", A, C, ("and", B, C)), condition=read("(a or b) and c"))
        self.check_orders(parts, 1, code=ROWS)
        self.check_orders(plain_parts, 1, code=ROWS)
        self.check_orders(shaped, ("and", A, B), code=ROWS)
        self.check_orders(plain, ("and", A, B), code=ROWS)
        self.check_orders(condition_of, ("and", A, B), code=ROWS)

    def test_functions_of_several_arguments_in_any_order(self):
        one, other = ("and", A, B), ("and", A, C)
        self.check_orders(equal, True, one=one, other=("and", A, B, A), strength="steady")
        self.check_orders(equal, False, one=one, other=other, strength="truth")
        self.check_orders(strongest, "none", one=one, other=other)
        self.check_orders(difference, ["yes"], one=one, other=other)
        self.check_orders(steady_difference, (("a", "yes"), ("b", "no")), one=one, other=read("a and (b or not b)"))
        self.check_orders(truth_difference, (("a", "yes"), ("b", "no")), one=one, other=A)
        self.check_orders(memory_run, (("a", "b"), "open"), condition=one, memory=[(("a",), "yes")])
        self.check_orders(memory_difference, None, one=one, other=one)
        self.check_orders(factors, [A, B], condition=one, kind="and")
        self.check_orders(root, (A, 2), condition=("or", A, A), kind="or")
        self.check_orders(is_step, True, one=A, other=nots(2, A))
        self.check_orders(way, [A, nots(2, A)], one=A, other=nots(2, A))
        self.check_orders(factor_codes, [(("a", "yes", "no"),), (("b", "yes", "no"),)], code=ROWS, kind="and")

    def test_the_first_argument_in_the_order_of_the_signature_counts(self):
        self.assertRaises(InvalidCondition, equal, strength=None, other=None, one=None)
        self.assertRaises(InvalidCondition, equal, strength=None, other=None, one=A)
        self.assertRaises(InvalidStrength, equal, strength=None, other=NINTH, one=EIGHT)
        self.assertRaises(InvalidCondition, memory_run, memory=None, condition=None)
        self.assertRaises(InvalidAnswers, memory_run, memory=None, condition=A)
        self.assertRaises(InvalidCondition, factors, kind=None, condition=None)
        self.assertRaises(InvalidKind, root, kind=None, condition=WITH_IF)
        self.assertRaises(InvalidCode, factor_codes, kind=None, code=None)
        self.assertRaises(InvalidKind, factor_codes, kind=None, code=ROWS)


class Unchanged(Calls):
    def test_nothing_is_modified_and_the_same_is_returned_again(self):
        one, other = read("not (a and (b or c) and not a)"), read("(c if a and b else not a) or b")
        memory = [(("a",), "yes"), (("a", "b"), "no"), (("b",), "yes")]
        rows = code(other)
        for function, *arguments in [
            (equal, one, other, "free"), (equal, one, other, "outcome"), (strongest, one, other),
            (difference, one, other),
            (steady_difference, one, other), (truth_difference, one, other), (memory_run, one, memory),
            (memory_run, one, []),
            (memory_difference, one, other), (memory_difference, one, one), (normal, one), (factors, one, "or"),
            (root, one, "and"),
            (basic, other), (is_step, one, other), (is_step, one, nots(2, one)), (way, one, nots(2, one)),
            (way, one, other),
            (parts, rows), (plain_parts, rows), (shaped, rows), (plain, rows), (plain, code(one)),
            (factor_codes, rows, "or"),
            (factor_codes, rows, "and"), (condition_of, rows),
        ]:
            with self.subTest(function.__name__):
                self.assertEqual(unchanged(self, function, *arguments), function(*arguments))

    def test_the_memory_stays_the_callers(self):
        memory = [(("a",), "yes")]
        self.assertEqual(memory_run(("and", A, B), memory), (("a", "b"), "open"))
        self.assertEqual(memory, [(("a",), "yes")])
        memory.append((("a", "b"), "no"))
        self.assertEqual(memory_run(("and", A, B), memory), (("a", "b"), "no"))
        memory.append("more")
        self.assertRaises(InvalidAnswers, memory_run, ("and", A, B), memory)


class Time(Calls):
    def try_time(self, error, function, *arguments):
        """Check that the call does not take long, whether it raises this error or not, and return what it returns."""
        try:
            return self.check_time(function, *arguments)
        except error:
            return self.check(error, function, *arguments)

    def check_conditions(self, one, other):
        """Check how long all functions of conditions take for these two."""
        for function in PAIRS:
            self.try_time(TooLarge, function, one, other)
            self.try_time(TooLarge, function, other, one)
            self.try_time(TooLarge, function, one, one)
        for strength in ("free", "steady", "outcome", "truth"):
            self.try_time(TooLarge, equal, one, other, strength)
        self.check_time(memory_run, one, long_memory(200))
        self.try_time(HasIf, normal, one)
        for kind in ("and", "or"):
            self.try_time(HasIf, factors, one, kind)
            self.try_time(HasIf, root, one, kind)
        found = self.try_time(TooLarge, basic, one)
        if found is not None:
            self.check_time(way, one, found)
            self.check_time(is_step, one, found)
        self.check_code(code(one))

    def check_code(self, rows):
        """Check how long all functions of codes take for this one."""
        for function in OF_CODES:
            self.try_time(TooLarge, function, rows)
        for kind in ("and", "or"):
            self.check_time(factor_codes, rows, kind)

    def test_conditions_at_the_bounds(self):
        for name, (condition, _) in bounds().items():
            with self.subTest(name):
                self.check_conditions(condition, ("test", tests(condition)[0]))
                if is_condition(nots(2, condition)):
                    self.check_conditions(condition, nots(2, condition))

    def test_conditions_with_sixty_tests_and_eight_names(self):
        found = [condition for condition in random_conditions(400, 60, "abcdefgh",
                                                              seed=31) if len(tests(condition)) > 57]
        found += [condition for condition in random_conditions(200, 60, "abcdefgh", False,
                                                               seed=32) if len(tests(condition)) > 57]
        self.assertGreater(len(found), 10)
        for one, other in zip(found, found[1:]):
            self.check_conditions(one, other)

    def test_conditions_that_part_at_the_end(self):
        ask = ("and", *[("or", ("test", name), ("not", ("test", name))) for name in "abcdefgh"])
        self.check_conditions(("and", ask, flat("and", "abcdefgh" * 5)),
                              ("and", ask, flat("and", "abcdefgh" * 4 + "abcdefg")))
        choice = ("if", flat("or", "abcdefgh"), flat("and", "hgfedcba" * 3), flat("or", "abcdefgh" * 3))
        self.check_conditions(choice, ("not", choice))

    def test_ways_with_many_steps(self):
        deep = A
        for _ in range(38):
            deep = ("not", ("and", B, ("not", deep)))
            deep = deep if is_condition(deep) else A
        self.check_conditions(deep, nots(2, A))
        for condition in [nots(61, ("and", *[nots(2, A)] * 60)), ("or", *[nots(10, flat("or", "abc"))] * 19),
                          ("if", nots(30, flat("and", "abcdefg")), nots(31, flat("or", "abcdefgh")),
                           nots(30, flat("or", "abc"))),
                          ("and", nots(3, ("or", A, B)), ("or", A, nots(5, flat("and", "abcdefghabcdefgh"))), C)]:
            self.assertIs(is_condition(condition), True)
            self.check_conditions(condition, flat("or", "abcdefgh"))

    def test_codes_with_sixty_rows(self):
        source = random.Random(33)
        for letters in ("a", "abcdefgh"):
            self.check_code(chain(60, letters))
            rows = [(letters[k % len(letters)], k + 1, k + 1) for k in range(59)]
            self.check_code((*rows, ("a", "yes", "no")))
            self.check_code((*rows, ("a", "yes", "yes")))
        for _ in range(30):
            self.check_code(random_code(source, 60))
        for condition in random_conditions(60, 30, "abcdefgh", seed=34):
            self.check_code(joined("and", code(condition), code(("not", condition))))


if __name__ == "__main__":
    unittest.main()
