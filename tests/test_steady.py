"""Points 5 and 18: steady equal conditions, steady codes, and how many of them there are."""

import random
import unittest

from leftfirst import steady
from leftfirst.codes import code, is_code, run_code
from leftfirst.conditions import is_condition, names, tests
from leftfirst.errors import TooLarge
from leftfirst.running import steady_run
from leftfirst.steady import is_steady, pruned, steady_count, unpruned
from leftfirst.texts import read
from tests.checks import kinds
from tests.samples import A, all_assignments, bounds, chain, code_of_tree, random_conditions, small_conditions
from tests.samples import steady_trees, told_steadily, tree_of


def parity(letters):
    """A tree that asks all these names and ends with yes if an odd number of them is answered with yes."""
    trees = {"even": "no", "odd": "yes"}
    for name in reversed(letters):
        trees = {"even": (name, trees["odd"], trees["even"]), "odd": (name, trees["even"], trees["odd"])}
    return trees["even"]


def random_tree(source, letters, results):
    """A steady tree with names out of these; source is a random.Random."""
    if not letters or source.random() < results:
        return source.choice(["yes", "no"])
    name = source.choice(letters)
    later = [other for other in letters if other != name]
    return (name, random_tree(source, later, results), random_tree(source, later, results))


def random_trees(many, letters, results=0.1):
    """So many steady trees that are no results, always the same ones."""
    source = random.Random(2)
    found = [random_tree(source, letters, results) for _ in range(many)]
    return [tree for tree in found if not isinstance(tree, str)]


# The pruned codes of these two conditions have just 60 rows and one more.
SIXTY = read("not ((c and h) and b and e or (not not (d or g) and (f if e else not e) or e and not a or not (f or not d or a)"
             " or b) and not h and not not (f and a and f and f if (b if f and b and c else d) else not not e))")
ONE_MORE = read("((not g and (not e and not g) and f if a else not f) if (not not d and c) and (d and c and g and (c or f))"
                " or (not not b or b or f or c) else not (a and h)) or not ((not e and b if d else c) if not h else"
                " not e and not b and g) or a")


class Examples(unittest.TestCase):
    def test_examples(self):
        self.assertEqual(pruned(read("a and (b or not a)")), (("a", 1, "no"), ("b", "yes", "no")))
        self.assertEqual(pruned(read("a and not a")), (("a", "no", "no"),))
        self.assertEqual([steady_count(number) for number in (1, 2, 3)], [4, 72, 16428])


class Pruned(unittest.TestCase):
    def check(self, condition):
        """Check that the pruned code is a steady code and does what steady_run does, and return it."""
        rows = pruned(condition)
        self.assertIs(is_code(rows), True)
        self.assertEqual(kinds(rows) - {int}, {tuple, str})
        self.assertIs(is_steady(rows), True)
        for assignment in all_assignments(names(condition)):
            asked, end = told_steadily(condition, dict(assignment))
            self.assertEqual(steady_run(condition, assignment), (asked, end))
            self.assertEqual(run_code(rows, [dict(assignment)[name] for name in asked]), (asked, end))
        return rows

    def test_small_conditions(self):
        for condition in small_conditions()[:2400:5]:
            self.check(condition)

    def test_random_conditions(self):
        for letters in ("ab", "abc", "abcd"):
            for condition in random_conditions(100, 30, letters):
                self.check(condition)

    def test_conditions_at_the_bounds(self):
        for name, (condition, _) in bounds().items():
            with self.subTest(name):
                self.check(condition)

    def test_conditions_in_which_no_name_stands_twice_keep_their_code(self):
        for text in ["a", "not a", "a and b or c", "b if a else c", "(a or b) and (c or d)", "e and f if d else (a or b) and c"]:
            self.assertEqual(pruned(read(text)), code(read(text)))

    def test_names_that_are_asked_for_nothing_stay(self):
        self.assertEqual(pruned(read("a or not a")), (("a", "yes", "yes"),))
        self.assertEqual(pruned(read("(a or not a) and b")), (("a", 1, 1), ("b", "yes", "no")))
        self.assertEqual(pruned(read("b if a else b")), (("a", 1, 1), ("b", "yes", "no")))
        self.assertEqual(pruned(read("a and b and not b")), (("a", 1, "no"), ("b", "no", "no")))
        self.assertEqual(pruned(read("a if b else a if b else a")), (("b", 1, 1), ("a", "yes", "no")))

    def test_steady_equal_conditions_have_the_same_pruned_code(self):
        for one, other in [("a and b", "a and (b or not a)"), ("a", "a and a"), ("a", "a or a"), ("b if a else c",
                           "a and b or not a and c"), ("a or b", "b if not a else a"), ("a and not a", "a and not a and b"),
                           ("not (a or b)", "not a and not b"), ("b if a else c", "(not a or b) and (a or c)")]:
            self.assertEqual(pruned(read(one)), pruned(read(other)), (one, other))

    def test_other_conditions_have_not(self):
        for one, other in [("a and b", "b and a"), ("a", "a or b and not b"), ("a", "not a"), ("a", "b"), ("a and b", "a or b"),
                           ("a", "a if b else a"), ("a or not a", "a and not a"), ("a or not a", "b or not b"),
                           ("b if a else not b", "a if b else not a")]:
            self.assertNotEqual(pruned(read(one)), pruned(read(other)), (one, other))

    def test_the_same_code_if_and_only_if_they_are_steady_equal(self):
        found = {}
        for condition in [*small_conditions()[:2400:9], *random_conditions(200, 8, "ab"), *random_conditions(200, 4, "abc")]:
            seen = tuple([told_steadily(condition, {**{"c": "no", "note": "no"}, **dict(assignment)})
                          for assignment in all_assignments(("a", "b", "c", "note"))])
            found.setdefault(seen, pruned(condition))
            self.assertEqual(found[seen], pruned(condition))
        self.assertEqual(len(set(found.values())), len(found))
        self.assertGreater(len(found), 100)

    def test_random_conditions_with_eight_names(self):
        for condition in random_conditions(150, 60, "abcdefgh", seed=5):
            rows = code_of_tree(tree_of(condition))
            if len(rows) <= 60:
                self.assertEqual(pruned(condition), rows)
            else:
                self.assertRaises(TooLarge, pruned, condition)

    def test_sixty_rows_and_one_more(self):
        self.assertEqual(len(code_of_tree(tree_of(SIXTY))), 60)
        self.assertEqual(pruned(SIXTY), code_of_tree(tree_of(SIXTY)))
        self.assertEqual(len(code_of_tree(tree_of(ONE_MORE))), 61)
        self.assertRaises(TooLarge, pruned, ONE_MORE)
        self.assertRaises(TooLarge, pruned, ("not", ONE_MORE))
        self.assertRaises(TooLarge, pruned, ("and", ONE_MORE, ONE_MORE))


class Steady(unittest.TestCase):
    def test_codes_that_are_steady(self):
        for rows in [code(A), chain(8), code(read("(a or b) and c")), code(read("b if a else b")), (("a", "no", "no"),),
                     code(read("b and c if a else c and b")), code(read("b if a else not b"))]:
            self.assertIs(is_steady(rows), True, rows)

    def test_codes_that_are_not(self):
        for rows in [code(("and", A, A)), chain(9), chain(60), code(read("a and b and a")), code(read("b if a else a")),
                     code(read("b or (c if a else c and b)")), (("a", 1, "no"), ("a", "no", "no")),
                     (("a", 1, 1), ("b", "no", 2), ("a", "no", "yes"))]:
            self.assertIs(is_steady(rows), False, rows)

    def test_all_ways_of_the_codes_of_conditions(self):
        for condition in [*small_conditions()[:2400:7], *random_conditions(200, 12, "abcdefgh")]:
            rows = code(condition)
            self.assertIs(is_steady(rows), rows == pruned(condition))


class Unpruned(unittest.TestCase):
    def check(self, rows):
        """Check the condition that unpruned gives, and return it."""
        condition = unpruned(rows)
        self.assertIs(is_condition(condition), True)
        self.assertEqual(kinds(condition), {tuple, str})
        self.assertNotIn("'if'", repr(condition))
        self.assertEqual(pruned(condition), rows)
        return condition

    def test_all_steady_codes_with_two_names(self):
        for tree in steady_trees("ab")[2:]:
            self.check(code_of_tree(tree))

    def test_steady_codes_with_three_names(self):
        for tree in steady_trees("abc")[2::7]:
            self.check(code_of_tree(tree))

    def test_steady_codes_with_four_names_are_never_too_large(self):
        for letters, results in [("abcd", 0.0), ("abcd", 0.1), ("zyxw", 0.3)]:
            for tree in random_trees(300, letters, results):
                self.check(code_of_tree(tree))
        for letters in ("abcd", "dbca"):
            self.check(code_of_tree(parity(letters)))

    def test_pruned_codes_of_conditions(self):
        for condition in [*small_conditions()[:2400:17], *random_conditions(200, 25, "abcd")]:
            self.check(pruned(condition))

    def test_codes_in_which_every_row_has_a_result_are_never_too_large(self):
        source = random.Random(3)
        for number in range(1, 9):
            for _ in range(60):
                letters = source.sample("abcdefgh", number)
                rows = [(name, k + 1, source.choice(["yes", "no"])) for k, name in enumerate(letters)]
                rows = [(name, yes, no) if source.random() < 0.5 else (name, no, yes) for name, yes, no in rows]
                last = (letters[-1], source.choice(["yes", "no"]), source.choice(["yes", "no"]))
                condition = self.check((*rows[:-1], last))
                self.assertLessEqual(len(tests(condition)), number + 1)

    def test_shared_rows_do_not_make_it_too_large(self):
        rows = tuple([(name, k + 1, k + 1) for k, name in enumerate("abcdefg")] + [("h", "yes", "no")])
        self.check(rows)
        for text in ["(a or b) and (c or d) and (e or f) and (g or h)", "(a and b or c) and (d or e and f) or g and h"]:
            self.assertEqual(len(tests(self.check(code(read(text))))), 8)

    def test_none_for_a_code_that_is_not_steady(self):
        for rows in [code(("and", A, A)), chain(60), (("a", 1, 1), ("a", "no", "no"))]:
            self.assertIsNone(unpruned(rows))

    def test_none_comes_first_also_where_it_would_be_too_large(self):
        rows = code_of_tree(parity("abcdefgh"))
        turned_back = (("h", 1, 1), *[tuple([part + 1 if isinstance(part, int) else part for part in row]) for row in rows])
        self.assertIs(is_code(turned_back), True)
        self.assertIsNone(unpruned(turned_back))

    def test_too_large(self):
        # No condition without if of at most 60 tests tells whether an odd number of 8 names is answered with yes.
        rows = code_of_tree(parity("abcdefgh"))
        self.assertEqual(len(rows), 15)
        self.assertIs(is_steady(rows), True)
        self.assertRaises(TooLarge, unpruned, rows)

    def test_either_too_large_or_right(self):
        for condition in random_conditions(200, 40, "abcdefgh", seed=4):
            try:
                rows = pruned(condition)
                unpruned(rows)
            except TooLarge:
                continue
            self.check(rows)


class Count(unittest.TestCase):
    def test_from_0_to_8(self):
        expected = [2]
        for number in range(1, 9):
            expected.append(2 + number * expected[-1] ** 2)
        self.assertEqual([steady_count(number) for number in range(9)], [total - 2 for total in expected])
        self.assertEqual([steady_count(number) for number in range(5)], [0, 4, 72, 16428, 1079779600])

    def test_counts_the_steady_codes(self):
        for number in (1, 2, 3):
            found = {code_of_tree(tree) for tree in steady_trees("abc"[:number])[2:]}
            self.assertEqual(len(found), steady_count(number))

    def test_counts_the_conditions_that_are_not_steady_equal(self):
        found = {pruned(condition) for condition in random_conditions(4000, 7, "ab")}
        self.assertEqual(len(found), steady_count(2))


class Place(unittest.TestCase):
    def test_functions_are_defined_in_the_file_that_lists_them(self):
        for name in ["pruned", "is_steady", "unpruned", "steady_count"]:
            self.assertEqual(getattr(steady, name).__module__, "leftfirst.steady")


if __name__ == "__main__":
    unittest.main()
