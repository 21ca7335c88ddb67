"""Point 19: tables of the ends, implication, and the fewest askings."""

import itertools
import unittest

from leftfirst import truth
from leftfirst.codes import is_code
from leftfirst.conditions import names
from leftfirst.equality import strongest
from leftfirst.errors import InvalidNames, Missing, TooLarge
from leftfirst.running import steady_run
from leftfirst.steady import is_steady, pruned, unpruned
from leftfirst.texts import read
from leftfirst.truth import askings, cheapest, fewest_askings, implies, table
from tests.checks import kinds
from tests.samples import A, all_assignments, bounds, code_of_tree, flat, invalid_names_tuples, random_conditions
from tests.samples import small_conditions, steady_trees, told_steadily

SOME = [*small_conditions()[:2400:29], *random_conditions(80, 20, "abc"), *random_conditions(30, 40, "abcd")]


def ends_of(condition, letters):
    """The ends for all assignments of these names, in ascending order of the assignments."""
    return [told_steadily(condition, dict(assignment))[1] for assignment in sorted(all_assignments(letters))]


def depth(tree):
    """The greatest number of names that are asked on a way through a tree."""
    return 0 if isinstance(tree, str) else 1 + max(depth(tree[1]), depth(tree[2]))


def end_of(tree, answers):
    """The end of a steady tree for the answers of a dict."""
    while not isinstance(tree, str):
        tree = tree[1] if answers[tree[0]] == "yes" else tree[2]
    return tree


def longest(rows, at=0):
    """The greatest number of rows on a way through a code."""
    return 1 + max([longest(rows, target) for target in rows[at][1:] if isinstance(target, int)], default=0)


def end_by(rows, answers):
    """The end of a code for the answers of a dict."""
    at = 0
    while isinstance(at, int):
        at = rows[at][1] if answers[rows[at][0]] == "yes" else rows[at][2]
    return at


def parity(letters):
    """A condition that ends with yes if an odd number of these names is answered with yes."""
    condition = ("test", letters[0])
    for name in letters[1:]:
        condition = ("if", condition, ("not", ("test", name)), ("test", name))
    return condition


class Examples(unittest.TestCase):
    def test_examples(self):
        condition = read("a and b or not a and b")
        found = [table(read("a and not b"), ("a", "b")), askings(condition), fewest_askings(condition)]
        self.assertEqual(found, [["no", "no", "yes", "no"], 2, 1])


class Table(unittest.TestCase):
    def check(self, condition, letters):
        """Check the table for these names, and return it."""
        found = table(condition, letters)
        self.assertIs(type(found), list)
        self.assertEqual(found, ends_of(condition, letters))
        self.assertEqual(found, [steady_run(condition, assignment)[1] for assignment in sorted(all_assignments(letters))])
        return found

    def test_small_conditions(self):
        for condition in small_conditions()[:2400:3]:
            self.check(condition, names(condition))

    def test_random_conditions(self):
        for condition in [*random_conditions(60, 40, "abcd"), *random_conditions(10, 60, "abcdefgh")]:
            self.check(condition, names(condition))

    def test_conditions_at_the_bounds(self):
        for condition, _ in bounds().values():
            self.check(condition, names(condition))

    def test_the_order(self):
        self.assertEqual(self.check(read("a"), ("a",)), ["no", "yes"])
        self.assertEqual(self.check(read("a and b"), ("a", "b")), ["no", "no", "no", "yes"])
        self.assertEqual(self.check(read("b and not a"), ("a", "b")), ["no", "yes", "no", "no"])
        self.assertEqual(self.check(read("c"), ("a", "b", "c")), ["no", "yes"] * 4)
        self.assertEqual(self.check(read("a"), ("a", "b", "c")), ["no"] * 4 + ["yes"] * 4)

    def test_more_names_than_the_condition_has(self):
        for condition in random_conditions(60, 12, "bdf"):
            for letters in ("abcdef", "bdfz", "bdefgh", "abcdefgh"):
                self.check(condition, tuple(letters))
        self.assertEqual(self.check(read("b"), ("a", "aa", "ab", "b")), ["no", "yes"] * 8)
        self.assertEqual(len(self.check(A, tuple("abcdefgh"))), 256)

    def check_missing(self, condition, letters, name):
        with self.assertRaises(Missing) as caught:
            table(condition, letters)
        self.assertIs(type(caught.exception), Missing)
        self.assertEqual(caught.exception.name, name)

    def test_missing_is_the_first_name_in_ascending_order(self):
        self.check_missing(read("c and b and a"), ("c",), "a")
        self.check_missing(read("c and b and a"), ("a", "c"), "b")
        self.check_missing(read("c and b and a"), ("x", "y"), "a")
        self.check_missing(read("c and b and a"), ("a", "b"), "c")
        self.check_missing(read("b or a"), ("a",), "b")
        self.check_missing(read("aa and a"), ("b",), "a")
        self.check_missing(read("aa and b"), ("a", "b"), "aa")

    def test_missing_also_if_it_is_never_needed(self):
        self.check_missing(read("a or not a or b"), ("a",), "b")
        self.check_missing(read("a and not a and b"), ("a",), "b")

    def test_what_is_no_tuple_of_names(self):
        for value in invalid_names_tuples():
            self.assertRaises(InvalidNames, table, A, value)
            self.assertRaises(InvalidNames, table, read("a and b"), value)

    def test_one_to_eight_names(self):
        for number in range(10):
            letters = tuple("abcdefghi"[:number])
            if 1 <= number <= 8:
                self.assertEqual(len(table(A, letters)), 2 ** number)
            else:
                self.assertRaises(InvalidNames, table, A, letters)

    def test_the_list_belongs_to_the_caller(self):
        table(A, ("a",)).clear()
        self.assertEqual(table(A, ("a",)), ["no", "yes"])


class Implies(unittest.TestCase):
    def check(self, one, other):
        """Check by all assignments, and return what is returned."""
        both = sorted({*names(one), *names(other)})
        pairs = list(zip(ends_of(one, both), ends_of(other, both)))
        found = implies(one, other)
        self.assertIs(found, ("yes", "no") not in pairs)
        return found

    def test_pairs_of_conditions(self):
        conditions = [*small_conditions()[:2400:61], *random_conditions(25, 8, "ab"), *random_conditions(12, 20, "abc")]
        found = [self.check(one, other) for one, other in itertools.product(conditions, repeat=2)]
        self.assertGreater(found.count(True), 500)
        self.assertGreater(found.count(False), 500)

    def test_examples(self):
        for one, other, expected in [("a", "a", True), ("a and b", "a", True), ("a", "a and b", False),
                                     ("a", "a or b", True),
                                     ("a or b", "a", False), ("a and not a", "b", True), ("b", "a or not a", True),
                                     ("a or not a", "b", False), ("a", "not a", False), ("a", "b", False),
                                     ("not a", "a", False),
                                     ("a and b", "b and a", True), ("b if a else c", "b or c", True),
                                     ("a and not a", "b and not b", True)]:
            self.assertIs(self.check(read(one), read(other)), expected, (one, other))

    def test_eight_names_together_and_one_more(self):
        eight, ninth = flat("and", "abcdefgh"), ("test", "i")
        self.assertIs(self.check(eight, A), True)
        self.assertIs(self.check(A, eight), False)
        self.assertIs(self.check(flat("and", "abcd"), flat("or", "efgh")), False)
        for one, other in [(eight, ninth), (ninth, eight), (flat("or", "abcde"), flat("or", "efghi"))]:
            self.assertRaises(TooLarge, implies, one, other)


class Askings(unittest.TestCase):
    def test_all_assignments(self):
        for condition in [*SOME, *[condition for condition, _ in bounds().values()],
                          *random_conditions(20, 60, "abcdefgh")]:
            asked = [told_steadily(condition, dict(assignment))[0] for assignment in all_assignments(names(condition))]
            self.assertEqual(askings(condition), max(map(len, asked)))

    def test_examples(self):
        for text, expected in [("a", 1), ("a and a", 1), ("a or not a", 1), ("a and b", 2), ("b if a else c", 2),
                               ("a and b or c", 3),
                               ("a and b and c and a", 3), ("(b if a else c) and d", 3), ("a and not a and b", 1)]:
            self.assertEqual(askings(read(text)), expected)
            self.assertIs(type(askings(read(text))), int)
        self.assertEqual(askings(flat("and", "abcdefgh")), 8)


class Fewest(unittest.TestCase):
    def check(self, condition):
        """Check the cheapest code, and return the fewest askings."""
        number = fewest_askings(condition)
        self.assertIs(type(number), int)
        rows = cheapest(condition)
        self.assertIs(is_code(rows), True)
        self.assertIs(is_steady(rows), True)
        self.assertLessEqual(kinds(rows), {tuple, str, int})
        self.assertLessEqual({row[0] for row in rows}, {*names(condition)})
        for assignment in all_assignments(names(condition)):
            self.assertEqual(end_by(rows, dict(assignment)), told_steadily(condition, dict(assignment))[1])
        self.assertEqual(longest(rows), number)
        self.assertGreaterEqual(number, 1)
        self.assertLessEqual(number, askings(condition))
        return number

    def test_against_a_search_through_all_steady_trees(self):
        for letters in ("a", "ab", "abc"):
            least, chosen = {}, {}
            for tree in steady_trees(letters)[2:]:
                ends = tuple([end_of(tree, dict(answered)) for answered in all_assignments(letters)])
                least[ends] = min(least.get(ends, 9), depth(tree))
                chosen[ends] = tree
            self.assertEqual(len(least), 2 ** 2 ** len(letters))
            always = ("or", ("not", A), *[("test", name) for name in letters])
            for ends, tree in chosen.items():
                condition = ("and", always, unpruned(code_of_tree(tree)))
                self.assertEqual(names(condition), tuple(letters))
                self.assertEqual(self.check(condition), least[ends])

    def test_conditions_with_names_of_every_number_up_to_six(self):
        for letters in ("a", "ab", "abc", "abcd", "abcde", "abcdef"):
            for condition in random_conditions(15, 30, letters):
                self.check(condition)

    def test_conditions_that_always_end_in_the_same_way_ask_one_name(self):
        for text in ["a or not a", "a and not a", "(c or not c) and (b or not b)", "b and c and not b"]:
            self.assertEqual(self.check(read(text)), 1)
            self.assertEqual(len(cheapest(read(text))), 1)

    def test_names_that_are_asked_for_nothing(self):
        self.assertEqual(self.check(read("a and b or not a and b")), 1)
        self.assertEqual(cheapest(read("a and b or not a and b")), (("b", "yes", "no"),))
        self.assertEqual(self.check(read("(f or not f) and (a or b and not b)")), 1)

    def test_examples(self):
        for text, expected in [("a", 1), ("not a", 1), ("a and b", 2), ("a and b or not a and c", 2),
                               ("b and c or a and b or a and c", 3),
                               ("(not a or b) and (a or c)", 2), ("c and a or d and not a or c and d", 2),
                               ("a and b and c and d", 4),
                               ("c and b and a or d and not b and a or e and c and not a or f and not c and not a", 3)]:
            self.assertEqual(self.check(read(text)), expected, text)
        for number in range(1, 7):
            self.assertEqual(self.check(parity("abcdef"[:number])), number)

    def test_another_order_than_that_of_the_condition(self):
        # To ask d first saves an asking.
        condition = read("a and b and d or c and not d and (a or not a) and (b or not b)")
        self.assertEqual(askings(condition), 4)
        self.assertEqual(self.check(condition), 3)
        self.assertEqual(self.check(read("a and c or b and not c")), 2)

    def test_truth_equal_conditions_have_the_same_fewest_askings(self):
        conditions = random_conditions(60, 6, "ab", seed=3)
        for one, other in itertools.combinations(conditions, 2):
            if strongest(one, other) != "none":
                self.assertEqual(fewest_askings(one), fewest_askings(other))

    def test_six_names_and_one_more(self):
        self.assertEqual(self.check(flat("and", "abcdef" * 10)), 6)
        for condition in [flat("and", "abcdefg"), flat("or", "abcdefgh"),
                          ("and", A, read("not a"), flat("or", "bcdefg"))]:
            self.assertRaises(TooLarge, fewest_askings, condition)
            self.assertRaises(TooLarge, cheapest, condition)

    def test_no_way_asks_more_also_where_the_pruned_code_does(self):
        for condition in random_conditions(60, 25, "abcde", seed=9):
            self.assertLessEqual(self.check(condition), longest(pruned(condition)))


class Place(unittest.TestCase):
    def test_functions_are_defined_in_the_file_that_lists_them(self):
        for name in ["table", "implies", "askings", "fewest_askings", "cheapest"]:
            self.assertEqual(getattr(truth, name).__module__, "leftfirst.truth")


if __name__ == "__main__":
    unittest.main()
