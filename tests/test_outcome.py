"""Points 5 and 24: outcomes, names that are always asked, outcome codes, and how many of them there are."""

import itertools
import math
import unittest

from leftfirst import outcome as outcome_file
from leftfirst.codes import is_code
from leftfirst.conditions import names
from leftfirst.errors import Missing, TooLarge
from leftfirst.outcome import always_asked, outcome, outcome_code, outcome_count, outcome_difference
from leftfirst.steady import is_steady, pruned, unpruned
from leftfirst.texts import read
from tests.checks import kinds
from tests.samples import A, ANSWERS, all_assignments, bounds, code_of_tree, ends_of, flat, random_conditions
from tests.samples import small_conditions, steady_trees, told_steadily, tree_of

# The outcome codes of these two conditions have just 60 rows and one more. (The pruned code of the other has 59.)
SIXTY = read("not (((a or d) or c or e) and not (not (g and (h or d) and e) and ((h or not e) and (b or a or b)) and"
             " (f or not h) or not (b if d and not not e else f) or not h and a) and (h if a else c))")
ONE_MORE = read("((a if a else not not (not ((a or g) or h) or c)) if (a if (d if f else d) else h) or (c or b) else"
                " c if a else g) and not (((e or h) and g) and not (f and h) and b and (h and d))")
# The pruned code of this one has 65 rows, its outcome code 41.
LESS = read("(c or b or not e and not f or d) and (not ((h and (not not (g or d) and not g)) and not h if"
            " (d or not not (f and g)) or not e else not h) and (f or a and b)) and (g if not e or not h else"
            " not not ((e and not a) and a))")

# Conditions that are outcome equal, but not steady equal.
EQUAL = [
    ("b if a else not b", "a if b else not a"),
    ("(a or not a) and (b or not b)", "(b or not b) and (a or not a)"),
    ("(a or not a) and b", "b and (a or not a) or a and not a"),
    ("c and a if b else c or a", "not b or a if c else not b and a"),
]


def tree_names(tree):
    """The set of the names that are asked on all ways through a steady tree."""
    if isinstance(tree, str):
        return set()
    return {tree[0]} | tree_names(tree[1]) & tree_names(tree[2])


def tree_of_rows(rows, target=0):
    """The steady tree of a steady code."""
    if isinstance(target, str):
        return target
    return (rows[target][0], tree_of_rows(rows, rows[target][1]), tree_of_rows(rows, rows[target][2]))


def least_first(tree):
    """The tree that asks the least of the names that are asked on all ways first, and so on."""
    if isinstance(tree, str):
        return tree
    name = min(tree_names(tree))

    def without(part, k):
        if isinstance(part, str):
            return part
        return part[k] if part[0] == name else (part[0], without(part[1], k), without(part[2], k))

    return (name, least_first(without(tree, 1)), least_first(without(tree, 2)))


class Examples(unittest.TestCase):
    def test_examples(self):
        one, two = read("b if a else not b"), read("a if b else not a")
        self.assertEqual([always_asked(read("a and b")), always_asked(one)], [("a",), ("a", "b")])
        self.assertEqual(outcome(read("a and b"), (("a", "fails"), ("b", "no"))), "failed")
        self.assertEqual(outcome(read("b and a"), (("a", "fails"), ("b", "no"))), "no")
        self.assertEqual(outcome_code(two), (("a", 1, 2), ("b", "yes", "no"), ("b", "no", "yes")))
        self.assertEqual(outcome_code(one), outcome_code(two))
        self.assertEqual([outcome_count(number) for number in (0, 1, 2, 3)], [0, 4, 56, 6460])


class Outcome(unittest.TestCase):
    def test_all_outcome_assignments_also_such_that_lack_names(self):
        for condition in [*small_conditions()[:2400:29], *random_conditions(40, 60, "abcd")]:
            own = names(condition)
            for answered in all_assignments(own, ANSWERS):
                self.assertEqual(outcome(condition, answered), told_steadily(condition, dict(answered))[1])
                for k in range(len(own)):
                    self.check_less(condition, answered[:k] + answered[k + 1:])

    def check_less(self, condition, answered):
        try:
            expected = told_steadily(condition, dict(answered))[1]
        except KeyError as missing:
            self.check_missing(condition, answered, missing.args[0])
        else:
            self.assertEqual(outcome(condition, answered), expected)

    def check_missing(self, condition, answered, name):
        with self.assertRaises(Missing) as caught:
            outcome(condition, answered)
        self.assertIs(type(caught.exception), Missing)
        self.assertEqual(caught.exception.name, name)

    def test_missing(self):
        self.check_missing(A, (), "a")
        self.check_missing(read("b and a"), (("a", "fails"),), "b")
        self.check_missing(read("b and a"), (("b", "yes"),), "a")
        self.check_missing(read("c or b or a"), (("c", "no"),), "b")
        self.check_missing(read("a and a and c"), (("a", "yes"), ("b", "fails")), "c")

    def test_names_that_are_not_asked_may_be_missing(self):
        self.assertEqual(outcome(read("a and b"), (("a", "fails"),)), "failed")
        self.assertEqual(outcome(read("a and b"), (("a", "no"),)), "no")
        self.assertEqual(outcome(read("a or b"), (("a", "yes"), ("c", "fails"))), "yes")

    def test_failing_at_the_first_a_middle_and_the_last_name(self):
        for at in range(8):
            answered = tuple([(name, "fails" if k == at else "yes") for k, name in enumerate("abcdefgh")])
            self.assertEqual(outcome(flat("and", "abcdefgh" * 2), answered), "failed")
            self.assertEqual(outcome(flat("or", "abcdefgh" * 2), answered), "failed" if at == 0 else "yes")
            self.assertEqual(outcome(("not", flat("or", "abcdefgh")), answered), "failed" if at == 0 else "no")


class AlwaysAsked(unittest.TestCase):
    def test_against_all_assignments(self):
        for condition in [*small_conditions()[:2400:7], *random_conditions(150, 20, "abcde")]:
            own = names(condition)
            asked = [told_steadily(condition, dict(assignment))[0] for assignment in all_assignments(own)]
            expected = tuple([name for name in own if all(name in found for found in asked)])
            self.assertEqual(always_asked(condition), expected)

    def test_ascending(self):
        self.assertEqual(always_asked(read("(c or not c) and (b or not b) and a")), ("a", "b", "c"))
        self.assertEqual(always_asked(read("c and a if b else a and c")), ("b",))
        self.assertEqual(always_asked(read("c and a if b else c or a")), ("b", "c"))
        self.assertEqual(always_asked(flat("and", "hgfedcba")), ("h",))


class OutcomeCode(unittest.TestCase):
    def check(self, condition):
        """Check all that point 24 tells of the outcome code, and return it."""
        rows = outcome_code(condition)
        self.assertIs(is_code(rows), True)
        self.assertIs(is_steady(rows), True)
        self.assertEqual(kinds(rows) - {int}, {tuple, str})
        tree = tree_of_rows(rows)
        for assignment in all_assignments(names(condition)):
            asked, end = told_steadily(condition, dict(assignment))
            found = []
            part = tree
            while not isinstance(part, str):
                found.append(part[0])
                part = part[1 if dict(assignment)[part[0]] == "yes" else 2]
            self.assertEqual((sorted(found), part), (sorted(asked), end))
        for at in range(len(rows)):
            self.assertEqual(rows[at][0], min(tree_names(tree_of_rows(rows, at))))
        return rows

    def test_small_conditions(self):
        for condition in small_conditions()[:2400:7]:
            self.check(condition)

    def test_random_conditions(self):
        for letters in ("ab", "abc", "abcd", "edcba"):
            for condition in random_conditions(60, 20, letters):
                self.check(condition)

    def test_conditions_at_the_bounds(self):
        for name, (condition, _) in bounds().items():
            with self.subTest(name):
                self.check(condition)

    def test_random_conditions_with_eight_names(self):
        for condition in random_conditions(150, 60, "abcdefgh", seed=6):
            rows = code_of_tree(least_first(tree_of(condition)))
            if len(rows) <= 60:
                self.assertEqual(outcome_code(condition), rows)
            else:
                self.assertRaises(TooLarge, outcome_code, condition)

    def test_sixty_rows_and_one_more(self):
        for condition, number in [(SIXTY, 60), (ONE_MORE, 61), (LESS, 41)]:
            self.assertEqual(len(code_of_tree(least_first(tree_of(condition)))), number)
        self.assertEqual(len(self.check(SIXTY)), 60)
        self.assertRaises(TooLarge, outcome_code, ONE_MORE)
        self.assertRaises(TooLarge, outcome_code, ("not", ONE_MORE))
        self.assertEqual(len(pruned(ONE_MORE)), 59)

    def test_not_too_large_where_pruned_is(self):
        self.assertRaises(TooLarge, pruned, LESS)
        self.assertEqual(len(self.check(LESS)), 41)

    def test_the_same_code_if_and_only_if_they_are_outcome_equal(self):
        found = {}
        for condition in [*small_conditions()[:2400:31], *random_conditions(300, 7, "abc")]:
            seen = ends_of(condition, ("a", "b", "c", "note"))
            found.setdefault(seen, outcome_code(condition))
            self.assertEqual(found[seen], outcome_code(condition))
        self.assertEqual(len(set(found.values())), len(found))
        self.assertGreater(len(found), 100)

    def test_conditions_that_are_outcome_equal_but_not_steady_equal(self):
        for one, other in EQUAL:
            self.assertEqual(ends_of(read(one), ("a", "b", "c")), ends_of(read(other), ("a", "b", "c")))
            self.assertNotEqual(pruned(read(one)), pruned(read(other)))
            self.assertEqual(self.check(read(one)), self.check(read(other)))


class Difference(unittest.TestCase):
    def check(self, one, other):
        """Check the difference, and return it."""
        both = tuple(sorted({*names(one), *names(other)}))
        found = outcome_difference(one, other)
        if found is None:
            self.assertEqual(ends_of(one, both), ends_of(other, both))
        else:
            self.assertEqual(kinds(found), {tuple, str})
            self.assertEqual(tuple([name for name, _ in found]), both)
            self.assertTrue({answer for _, answer in found} <= {"yes", "no", "fails"})
            self.assertLessEqual([answer for _, answer in found].count("fails"), 1)
            self.assertNotEqual(told_steadily(one, dict(found))[1], told_steadily(other, dict(found))[1])
            self.assertNotEqual(outcome(one, found), outcome(other, found))
        return found

    def test_none_for_outcome_equal_conditions(self):
        for one, other in [*EQUAL, ("a", "a"), ("a", "not not a"), ("a and b", "a and b and a"), ("a or b", "b if not a else a")]:
            self.assertIsNone(self.check(read(one), read(other)))
            self.assertIsNone(self.check(read(other), read(one)))

    def test_conditions_that_end_in_different_ways_only_if_a_name_fails(self):
        for one, other in [("a and b", "b and a"), ("a", "a and (b or not b)"), ("a or not a", "b or not b"),
                           ("a and not a", "a and not a and b or a and not a and not b or b and not b")]:
            found = self.check(read(one), read(other))
            self.assertIn("fails", [answer for _, answer in found])

    def test_conditions_that_end_in_different_ways_without_failing(self):
        for one, other in [("a", "not a"), ("a", "b"), ("a and b", "a or b"), ("a or not a", "a and not a")]:
            self.assertIsNotNone(self.check(read(one), read(other)))

    def test_pairs_of_conditions(self):
        conditions = [*small_conditions()[:2400:101], *random_conditions(25, 6, "ab"), *random_conditions(20, 30, "abc")]
        for one, other in itertools.product(conditions, repeat=2):
            self.check(one, other)

    def test_none_if_and_only_if_the_outcome_codes_are_equal(self):
        conditions = random_conditions(60, 6, "ab", seed=8)
        for one, other in itertools.product(conditions, repeat=2):
            self.assertEqual(outcome_difference(one, other) is None, outcome_code(one) == outcome_code(other))

    def test_holds_names_that_only_one_of_them_has(self):
        self.assertEqual([name for name, _ in self.check(read("c"), read("a and b"))], ["a", "b", "c"])
        self.assertEqual([name for name, _ in self.check(flat("and", "hgfe"), flat("or", "abcd"))], list("abcdefgh"))

    def test_eight_names_together_and_one_more(self):
        self.assertIsNotNone(self.check(flat("and", "abcdefgh"), flat("and", "hgfedcba")))
        self.assertIsNone(outcome_difference(flat("and", "abcdefgh"), flat("and", "abcdefgh" * 7)))
        self.assertIsNotNone(self.check(flat("or", "abcd"), flat("or", "efgh")))
        self.assertRaises(TooLarge, outcome_difference, flat("or", "abcd"), flat("or", "efghi"))
        self.assertRaises(TooLarge, outcome_difference, flat("or", "abcdefgh"), ("test", "i"))
        self.assertRaises(TooLarge, outcome_difference, ("test", "i"), flat("or", "abcdefgh"))

    def test_no_too_large_because_of_a_code(self):
        self.assertIsNone(outcome_difference(ONE_MORE, ("not", ("not", ONE_MORE))))
        self.assertIsNotNone(outcome_difference(ONE_MORE, ("not", ONE_MORE)))
        self.assertIsNotNone(outcome_difference(ONE_MORE, LESS))


class Count(unittest.TestCase):
    def test_from_0_to_8(self):
        totals = [2]
        for number in range(1, 9):
            terms = [(-1) ** (j + 1) * math.comb(number, j) * totals[number - j] ** 2 ** j for j in range(1, number + 1)]
            totals.append(2 + sum(terms))
        self.assertEqual([outcome_count(number) for number in range(9)], [total - 2 for total in totals])
        self.assertEqual([outcome_count(number) for number in range(4)], [0, 4, 56, 6460])

    def test_counts_the_outcome_codes(self):
        for number in (1, 2, 3):
            trees = steady_trees("abc"[:number])[2:]
            found = {outcome_code(unpruned(code_of_tree(tree))) for tree in trees}
            self.assertEqual(len(found), outcome_count(number))

    def test_counts_the_conditions_that_are_not_outcome_equal(self):
        found = {outcome_code(condition) for condition in random_conditions(4000, 7, "ab")}
        self.assertEqual(len(found), outcome_count(2))


class Place(unittest.TestCase):
    def test_functions_are_defined_in_the_file_that_lists_them(self):
        for name in ["outcome", "always_asked", "outcome_code", "outcome_difference", "outcome_count"]:
            self.assertEqual(getattr(outcome_file, name).__module__, "leftfirst.outcome")


if __name__ == "__main__":
    unittest.main()
