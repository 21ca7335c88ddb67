"""Points 6 and 12: the form of codes, the code of a condition, runs of codes, and codes that are made of codes."""

import itertools
import unittest

from leftfirst import codes
from leftfirst.codes import code, is_code, joined, run_code, turned
from leftfirst.conditions import names, tests
from leftfirst.errors import TooLarge
from leftfirst.texts import read
from tests.checks import kinds
from tests.samples import A, ANSWERS, B, bounds, chain, code_of_tree, cyclic_codes, flat, invalid_codes, invalid_conditions
from tests.samples import misplaced_codes, nots, random_conditions, small_conditions, told, unchanged, ways


def has_code_form(rows):
    """Whether these rows, each a tuple of a name and two targets, have the form that point 6 tells."""
    order = []
    on_the_way = []

    def goes_well(target):
        if isinstance(target, str):
            return target in ("yes", "no")
        if not 0 <= target < len(rows) or target in on_the_way:
            return False
        if target not in order:
            order.append(target)
            on_the_way.append(target)
            if not goes_well(rows[target][1]) or not goes_well(rows[target][2]):
                return False
            on_the_way.pop()
        return True

    return goes_well(0) and order == list(range(len(rows))) and len(set(rows)) == len(rows)


def small_codes():
    """All codes with one or two rows and the names a and b, and some with three rows."""
    return [rows for rows in candidates() if has_code_form(rows)]


def candidates():
    """All tuples of one or two rows with the names a and b, and of three rows with one name, right and wrong ones."""
    targets = ["yes", "no", -1, 0, 1, 2, 3, "fails"]
    rows = [(name, yes, no) for name in "ab" for yes in targets for no in targets]
    fewer = [("a", yes, no) for yes in ["yes", "no", 0, 1, 2] for no in ["yes", "no", 0, 1, 2]]
    return [*[(row,) for row in rows], *itertools.product(rows, rows), *itertools.product(fewer, repeat=3)]


def free_tree(condition, answers=()):
    """What the condition does: a result, or a tuple of the name that is asked and of what it does behind each answer."""
    asked, end = told(condition, answers)
    if end != "open":
        return end
    return (asked[-1], free_tree(condition, [*answers, "yes"]), free_tree(condition, [*answers, "no"]))


def told_code(rows, answers):
    """The names that a code asks and the end."""
    asked = [rows[0][0]]
    target = 0
    for answer in answers:
        if answer == "fails":
            return tuple(asked), "failed"
        target = rows[target][1 if answer == "yes" else 2]
        if target in ("yes", "no"):
            return tuple(asked), target
        asked.append(rows[target][0])
    return tuple(asked), "open"


def told_joined(kind, one, other, answers):
    """The names that two codes ask, the second one if the first one does not settle it, and the end."""
    asked, end = told_code(one, answers)
    if end != ("yes" if kind == "and" else "no"):
        return asked, end
    more, end = told_code(other, answers[len(asked):])
    return asked + more, end


class Examples(unittest.TestCase):
    def test_examples(self):
        self.assertEqual(code(read("a and (b or not a)")), (("a", 1, "no"), ("b", "yes", 2), ("a", "no", "yes")))
        self.assertEqual(code(read("b if a else b")), (("a", 1, 1), ("b", "yes", "no")))

    def test_the_numbers_need_not_rise_along_the_targets(self):
        rows = (("a", 1, 2), ("c", "yes", "no"), ("b", 1, "no"))
        self.assertEqual(code(read("(a or b) and c")), rows)
        self.assertIs(is_code(rows), True)


class CodeOfCondition(unittest.TestCase):
    def test_each_kind(self):
        for text, rows in [
            ("a", (("a", "yes", "no"),)),
            ("not a", (("a", "no", "yes"),)),
            ("not not a", (("a", "yes", "no"),)),
            ("a and b", (("a", 1, "no"), ("b", "yes", "no"))),
            ("a or b", (("a", "yes", 1), ("b", "yes", "no"))),
            ("not a and b", (("a", "no", 1), ("b", "yes", "no"))),
            ("not (a and b)", (("a", 1, "yes"), ("b", "no", "yes"))),
            ("a and b and c", (("a", 1, "no"), ("b", 2, "no"), ("c", "yes", "no"))),
            ("a or b or c", (("a", "yes", 1), ("b", "yes", 2), ("c", "yes", "no"))),
            ("a and b or c", (("a", 1, 2), ("b", "yes", 2), ("c", "yes", "no"))),
            ("b if a else c", (("a", 1, 2), ("b", "yes", "no"), ("c", "yes", "no"))),
            ("b if not a else c", (("a", 1, 2), ("c", "yes", "no"), ("b", "yes", "no"))),
            ("not (b if a else c)", (("a", 1, 2), ("b", "no", "yes"), ("c", "no", "yes"))),
            ("(b if a else c) and d", (("a", 1, 3), ("b", 2, "no"), ("d", "yes", "no"), ("c", 2, "no"))),
            ("a and a", (("a", 1, "no"), ("a", "yes", "no"))),
            ("c if (b if a else not b) else d",
             (("a", 1, 4), ("b", 2, 3), ("c", "yes", "no"), ("d", "yes", "no"), ("b", 3, 2))),
        ]:
            with self.subTest(text):
                self.assertEqual(code(read(text)), rows)

    def test_equal_rests_become_one_row(self):
        for text, rows in [
            ("a if a else a", (("a", 1, 1), ("a", "yes", "no"))),
            ("b and c if a else b and c", (("a", 1, 1), ("b", 2, "no"), ("c", "yes", "no"))),
            ("b and c if a else d and c", (("a", 1, 3), ("b", 2, "no"), ("c", "yes", "no"), ("d", 2, "no"))),
            ("b and c if a else c", (("a", 1, 2), ("b", 2, "no"), ("c", "yes", "no"))),
            ("(b or c if a else b or c) and d", (("a", 1, 1), ("b", 2, 3), ("d", "yes", "no"), ("c", 2, "no"))),
            ("(b if a else b) if (b if a else b) else b if a else b",
             (("a", 1, 1), ("b", 2, 2), ("a", 3, 3), ("b", "yes", "no"))),
            ("b if a else not b", (("a", 1, 2), ("b", "yes", "no"), ("b", "no", "yes"))),
        ]:
            with self.subTest(text):
                self.assertEqual(code(read(text)), rows)

    def check(self, condition):
        """Check the form and the size of the code, and return it."""
        rows = code(condition)
        self.assertTrue(has_code_form(rows))
        self.assertEqual(kinds(rows) - {int}, {tuple, str})
        self.assertIs(is_code(rows), True)
        self.assertLessEqual(len(rows), len(tests(condition)))
        self.assertTrue({row[0] for row in rows} <= set(names(condition)))
        self.assertNotIn(True, [yes == no and isinstance(yes, str) for _, yes, no in rows])
        if "if" not in repr(condition):
            self.assertEqual(len(rows), len(tests(condition)))
            self.assertNotIn(True, [yes == no for _, yes, no in rows])
        return rows

    def test_run_code_gives_what_run_gives_for_all_answers_of_small_conditions(self):
        for condition in small_conditions()[:2400:7]:
            rows = self.check(condition)
            self.assertEqual(rows, code_of_tree(free_tree(condition)))
            for answers in ways(lambda answers: told(condition, answers)):
                for number in range(len(answers) + 1):
                    self.assertEqual(run_code(rows, answers[:number]), told(condition, answers[:number]))

    def test_random_conditions(self):
        for k, condition in enumerate(random_conditions(300, 60, "abcdefgh")):
            rows = self.check(condition)
            for turn in range(4):
                answers = [ANSWERS[(k * 5 + place * place + turn * place) % 2] for place in range(70)]
                self.assertEqual(run_code(rows, answers), told(condition, answers))

    def test_random_conditions_without_if(self):
        for condition in random_conditions(200, 60, "abcdefgh", with_if=False):
            self.check(condition)

    def test_at_the_bounds(self):
        for name, (condition, _) in bounds().items():
            with self.subTest(name):
                rows = self.check(condition)
                for answers in [["yes"] * 60, ["no"] * 60, ["yes", "no"] * 30, ["no", "yes"] * 30, ["no", "fails"], []]:
                    self.assertEqual(run_code(rows, answers), told(condition, answers))

    def test_sixty_tests(self):
        self.assertEqual(code(flat("and", "abcdef" * 10)), chain(60, "abcdef"))
        self.assertEqual(len(code(flat("or", "a" * 60))), 60)
        half = flat("and", "ab" * 14 + "c")
        self.assertEqual(code(("if", A, half, half)), (("a", 1, 1), *[
            (name, "yes" if yes == "yes" else yes + 1, no) for name, yes, no in code(half)]))

    def test_eighty_deep(self):
        self.assertEqual(code(nots(79, A)), (("a", "no", "yes"),))
        condition = A
        for _ in range(59):
            condition = ("and", ("test", "b"), condition)
        for _ in range(20):
            condition = ("not", condition)
        self.assertEqual(code(condition), (*chain(60, "b")[:59], ("a", "yes", "no")))

    def test_conditions_have_the_same_code_if_and_only_if_they_do_the_same_for_all_answers(self):
        found = {}
        for condition in small_conditions()[:2400:7]:
            seen = tuple([(tuple(answers), told(condition, answers)) for answers in ways(lambda a: told(condition, a))])
            found.setdefault(seen, code(condition))
            self.assertEqual(found[seen], code(condition))
        self.assertEqual(len(set(found.values())), len(found))


class Form(unittest.TestCase):
    def test_small_tuples_of_rows(self):
        for rows in candidates():
            self.assertIs(is_code(rows), has_code_form(rows), rows)

    def test_there_are_right_ones_among_them(self):
        self.assertGreater(len(small_codes()), 100)

    def test_values_that_are_no_codes(self):
        for value in [*invalid_codes(), *invalid_conditions()]:
            with self.subTest(repr(value)[:80]):
                self.assertIs(unchanged(self, is_code, value), False)

    def test_order_equal_rows_and_rows_never_met(self):
        for rows in misplaced_codes():
            self.assertFalse(has_code_form(rows), rows)
            self.assertIs(is_code(rows), False, rows)

    def test_rows_that_lead_back_to_themselves(self):
        for rows in cyclic_codes():
            self.assertFalse(has_code_form(rows), rows)
            self.assertIs(is_code(rows), False, rows)

    def test_other_values_at_every_place(self):
        rows = (("a", 1, 2), ("c", "yes", "no"), ("b", 1, "no"))
        for k, place in itertools.product(range(3), range(3)):
            for value in [None, True, False, -1, 3, "", "Yes", "no yes", (), ["no"], {"no": "no"}, 10 ** 999]:
                with self.subTest(k=k, place=place, value=repr(value)[:30]):
                    row = (*rows[k][:place], value, *rows[k][place + 1:])
                    self.assertIs(is_code((*rows[:k], row, *rows[k + 1:])), False)

    def test_the_same_result_twice_and_the_same_row_twice(self):
        for rows in [(("a", "no", "no"),), (("a", "yes", "yes"),), (("a", 1, 1), ("a", "no", "no")),
                     (("a", 1, 1), ("b", 2, 2), ("c", "yes", "yes")), (("yes", 1, "yes"), ("no", "no", "yes"))]:
            self.assertIs(is_code(rows), True, rows)

    def test_sixty_rows_and_one_more(self):
        self.assertIs(is_code(chain(60)), True)
        self.assertIs(is_code(chain(61)), False)
        self.assertIs(is_code(chain(60, "a")), True)
        self.assertIs(is_code(chain(61, "a")), False)

    def test_eight_names_and_one_more(self):
        self.assertIs(is_code(chain(8)), True)
        self.assertIs(is_code(chain(60, "abcdefgh")), True)
        self.assertIs(is_code(chain(9, "abcdefghi")), False)
        self.assertIs(is_code((("i", 1, "no"), *[
            (name, "yes" if yes == "yes" else yes + 1, no) for name, yes, no in chain(20)])), False)


class Runs(unittest.TestCase):
    def test_all_answers_of_small_codes(self):
        for rows in small_codes()[::3]:
            for answers in ways(lambda answers: told_code(rows, answers)):
                for number in range(len(answers) + 1):
                    self.assertEqual(run_code(rows, answers[:number]), told_code(rows, answers[:number]))
                self.assertEqual(run_code(rows, [*answers, "fails", "yes"]), told_code(rows, answers))

    def test_answers_none_too_few_enough_more_and_two_hundred(self):
        rows = chain(4)
        for number in (0, 1, 2, 3):
            self.assertEqual(run_code(rows, ["yes"] * number), (tuple("abcd"[:number + 1]), "open"))
        for number in (4, 5, 200):
            self.assertEqual(run_code(rows, ["yes"] * number), (tuple("abcd"), "yes"))
        for at in range(4):
            self.assertEqual(run_code(rows, ["yes"] * at + ["fails", "yes"]), (tuple("abcd"[:at + 1]), "failed"))

    def test_codes_that_have_no_condition(self):
        self.assertEqual(run_code((("a", "no", "no"),), ["yes"]), (("a",), "no"))
        self.assertEqual(run_code((("a", "no", "no"),), ["fails"]), (("a",), "failed"))
        self.assertEqual(run_code((("a", 1, 1), ("b", "yes", "yes")), ["no", "no"]), (("a", "b"), "yes"))


class Turned(unittest.TestCase):
    def test_is_the_code_of_not(self):
        for condition in [*small_conditions()[:2400:5], *random_conditions(100, 60, "abcdef"), ("or", A, B)]:
            self.assertEqual(turned(code(condition)), code(("not", condition)))

    def test_exchanges_the_results_and_nothing_else(self):
        rows = (("a", 1, "no"), ("b", "yes", 2), ("a", "no", "no"))
        self.assertEqual(turned(rows), (("a", 1, "yes"), ("b", "no", 2), ("a", "yes", "yes")))
        self.assertEqual(turned((("yes", "yes", "no"),)), (("yes", "no", "yes"),))

    def test_twice_gives_the_code(self):
        for rows in [*small_codes(), chain(60), code(flat("or", "abcdefgh" * 7))]:
            self.assertIs(is_code(turned(rows)), True)
            self.assertEqual(turned(turned(rows)), rows)


class Joined(unittest.TestCase):
    def test_codes_of_conditions(self):
        conditions = [*small_conditions()[:2400:97], *random_conditions(15, 30, "abcdefgh")]
        for one, other in itertools.product(conditions, repeat=2):
            for kind in ("and", "or"):
                if len({*names(one), *names(other)}) > 8:
                    self.assertRaises(TooLarge, joined, kind, code(one), code(other))
                else:
                    self.assertEqual(joined(kind, code(one), code(other)), code((kind, one, other)))

    def test_all_small_codes_also_those_that_belong_to_no_condition(self):
        for one, other in itertools.product(small_codes()[::23], small_codes()[::11]):
            for kind in ("and", "or"):
                outcome = joined(kind, one, other)
                self.assertTrue(has_code_form(outcome))
                for answers in ways(lambda answers: told_joined(kind, one, other, answers), ["yes", "no"]):
                    self.assertEqual(run_code(outcome, answers), told_joined(kind, one, other, answers))

    def test_rows_that_are_never_reached_fall_away(self):
        never, always = (("a", "no", "no"),), (("a", "yes", "yes"),)
        self.assertEqual(joined("and", never, chain(3)), never)
        self.assertEqual(joined("or", always, chain(3)), always)
        self.assertEqual(joined("or", never, chain(2, "bc")), (("a", 1, 1), ("b", 2, "no"), ("c", "yes", "no")))
        self.assertEqual(joined("and", always, chain(2, "bc")), (("a", 1, 1), ("b", 2, "no"), ("c", "yes", "no")))
        self.assertEqual(joined("or", (("a", 1, "yes"), ("b", "yes", "yes")), chain(3)), (("a", 1, "yes"), ("b", "yes", "yes")))

    def test_what_falls_away_does_not_count(self):
        never = (*chain(59)[:-1], ("c", 59, "no"), ("h", "no", "no"))
        self.assertIs(is_code(never), True)
        self.assertEqual(joined("and", never, chain(60)), never)
        self.assertEqual(joined("and", never, chain(8, "ijklmnop")), never)
        self.assertEqual(joined("or", turned(never), chain(8, "ijklmnop")), turned(never))
        self.assertRaises(TooLarge, joined, "or", never, chain(1, "i"))
        self.assertRaises(TooLarge, joined, "and", turned(never), chain(1))

    def test_equal_rows_become_one(self):
        one = (("a", "yes", 1), ("b", "no", "no"))
        other = (("c", "yes", 1), ("b", "no", "no"))
        self.assertEqual(joined("and", one, other), (("a", 1, 2), ("c", "yes", 2), ("b", "no", "no")))
        one = (("a", 1, 2), ("b", "no", "no"), ("c", "yes", 1))
        self.assertEqual(joined("and", one, (("b", "no", "no"),)), (("a", 1, 2), ("b", "no", "no"), ("c", 1, 1)))
        self.assertEqual(joined("and", (("a", 1, "yes"), ("b", "yes", "no")), (("b", 1, "no"), ("b", "yes", "no"))),
                         (("a", 1, 2), ("b", 2, "no"), ("b", 3, "no"), ("b", "yes", "no")))
        self.assertEqual(joined("and", (("a", 1, "yes"), ("b", "no", "no")), (("b", "no", "no"),)),
                         (("a", 1, 1), ("b", "no", "no")))
        self.assertEqual(joined("or", (("a", "no", 1), ("b", 2, "yes"), ("c", "yes", "yes")), (("c", "yes", "yes"),)),
                         (("a", 1, 2), ("c", "yes", "yes"), ("b", 1, "yes")))

    def test_sixty_rows_and_one_more(self):
        for kind in ("and", "or"):
            self.assertEqual(joined(kind, chain(30), chain(30)), code((kind, flat("and", ("abcdefgh" * 4)[:30]),
                                                                      flat("and", ("abcdefgh" * 4)[:30]))))
            self.assertRaises(TooLarge, joined, kind, chain(30), chain(31))
            self.assertRaises(TooLarge, joined, kind, chain(60), chain(1))
            self.assertRaises(TooLarge, joined, kind, chain(1), chain(60))
            self.assertRaises(TooLarge, joined, kind, chain(60), chain(60))
        self.assertEqual(len(joined("and", chain(59), chain(1))), 60)

    def test_sixty_rows_after_equal_ones_have_become_one(self):
        end = ("h", "no", "no")
        one = (*chain(29)[:-1], (chain(29)[-1][0], "yes", 29), end)
        for number, fits in [(30, True), (31, False)]:
            other = (*chain(number)[:-1], (chain(number)[-1][0], "yes", number), end)
            self.assertIs(is_code(one) and is_code(other), True)
            if fits:
                self.assertEqual(len(joined("and", one, other)), 60)
            else:
                self.assertRaises(TooLarge, joined, "and", one, other)

    def test_eight_names_and_one_more(self):
        for kind in ("and", "or"):
            self.assertEqual(len(joined(kind, chain(4, "abcd"), chain(4, "efgh"))), 8)
            self.assertEqual(len(joined(kind, chain(8), chain(8))), 16)
            self.assertRaises(TooLarge, joined, kind, chain(4, "abcd"), chain(5, "efghi"))
            self.assertRaises(TooLarge, joined, kind, chain(8), chain(1, "i"))
            self.assertRaises(TooLarge, joined, kind, chain(1, "i"), chain(8))


class Place(unittest.TestCase):
    def test_functions_are_defined_in_the_file_that_lists_them(self):
        for name in ["code", "is_code", "run_code", "turned", "joined"]:
            self.assertEqual(getattr(codes, name).__module__, "leftfirst.codes")


if __name__ == "__main__":
    unittest.main()
