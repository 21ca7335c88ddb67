"""Point 20: how many normal forms and how many conditions there are, and which normal forms these are."""

import itertools
import unittest

from leftfirst import counting
from leftfirst.codes import code
from leftfirst.conditions import is_condition, names, tests
from leftfirst.counting import count, normals, ways
from leftfirst.errors import InvalidNames, InvalidNumber
from leftfirst.forms import normal
from leftfirst.texts import write
from tests.checks import kinds
from tests.samples import A, invalid_names_tuples, random_conditions, small_conditions

EIGHT = tuple("abcdefgh")


def all_normals(number, letters, outer=None):
    """All normal forms with so many tests and with these names that may stand in one of this kind."""
    if number == 1:
        return [part for name in letters for part in (("test", name), ("not", ("test", name)))]
    found = []
    for kind in ("and", "or"):
        if kind != outer:
            for many in range(2, number + 1):
                for cuts in itertools.combinations(range(1, number), many - 1):
                    sizes = [high - low for low, high in zip((0, *cuts), (*cuts, number))]
                    members = [all_normals(size, letters, kind) for size in sizes]
                    found += [(kind, *chosen) for chosen in itertools.product(*members)]
    return found


def trees(number, letters):
    """All trees of evaluations, results too, with at most so many askings on each way."""
    if number == 0:
        return ["yes", "no"]
    later = trees(number - 1, letters)
    return ["yes", "no", *[(name, yes, no) for name in letters for yes in later for no in later
                           if not (isinstance(yes, str) and yes == no)]]


class Examples(unittest.TestCase):
    def test_examples(self):
        found = [count(1, 1), count(3, 2), count(5, 8), [write(one) for one in normals(1, ("a", "b"))],
                 [ways(n, 1) for n in [0, 1, 2]]]
        self.assertEqual(found, [2, 384, 94371840, ["a", "b", "not a", "not b"], [0, 2, 14]])


class Count(unittest.TestCase):
    def test_all_numbers_and_sizes(self):
        shapes = {1: 1}
        for n in range(1, 60):
            shapes[n + 1] = shapes[n] + sum(shapes[k] * shapes[n + 1 - k] for k in range(1, n + 1))
        self.assertEqual([shapes[n] for n in (1, 2, 3, 4, 5)], [1, 2, 6, 22, 90])
        for number in range(1, 61):
            for size in range(1, 9):
                self.assertEqual(count(number, size), (2 * size) ** number * shapes[number])

    def test_counts_the_normal_forms(self):
        for number, size in [(1, 1), (1, 3), (2, 1), (2, 3), (3, 1), (3, 2), (4, 1), (4, 2), (5, 1)]:
            found = {*all_normals(number, "abc"[:size])}
            self.assertEqual(count(number, size), len(found))
            self.assertTrue(all(normal(form) == form for form in found))

    def test_counts_the_sorts_of_conditions_without_if(self):
        conditions = [*small_conditions(), *random_conditions(4000, 3, "ab", False)]
        found = {code(one) for one in conditions if "'if'" not in repr(one) and {*names(one)} <= {"a", "b"}}
        for number in (1, 2):
            self.assertEqual(len({rows for rows in found if len(rows) == number}), count(number, 2))

    def test_numbers_before_and_behind(self):
        for number, size in [(0, 1), (61, 1), (1, 0), (1, 9), (-1, 1), (1, -1), (0, 9), (True, 1), (1, True)]:
            self.assertRaises(InvalidNumber, count, number, size)


class Normals(unittest.TestCase):
    def check(self, number, letters):
        """Check all normal forms, and return their list."""
        iterator = normals(number, letters)
        self.assertIs(iter(iterator), iterator)
        found = list(iterator)
        self.assertEqual(found, sorted(all_normals(number, letters), key=write))
        self.assertEqual(len({*found}), len(found))
        self.assertEqual(len(found), count(number, len(letters)))
        return found

    def test_all_numbers(self):
        for number in (1, 2, 3):
            for letters in [("a",), ("a", "b"), ("a", "ab", "b"), ("no", "test", "yes"), ("x", "y", "z", "zz")]:
                self.check(number, letters)
        for number in (1, 2, 3):
            self.check(number, EIGHT)

    def test_each_is_a_normal_form_with_so_many_tests(self):
        for number in (1, 2, 3):
            for form in self.check(number, ("a", "b", "c")):
                self.assertIs(is_condition(form), True)
                self.assertEqual(normal(form), form)
                self.assertEqual(len(tests(form)), number)
                self.assertEqual(kinds(form), {tuple, str})

    def test_no_two_are_free_equal(self):
        for number in (1, 2, 3):
            found = self.check(number, ("a", "b"))
            self.assertEqual(len({code(form) for form in found}), len(found))

    def test_the_order_of_the_texts(self):
        found = [write(form) for form in self.check(2, ("a", "b"))]
        self.assertEqual(found[:6], ["a and a", "a and b", "a and not a", "a and not b", "a or a", "a or b"])
        self.assertEqual(found[-1], "not b or not b")
        found = [write(form) for form in self.check(3, ("a",))]
        self.assertEqual(found[:3], ["(a or a) and a", "(a or a) and not a", "(a or not a) and a"])
        self.assertEqual([write(form) for form in self.check(1, ("a", "aa", "oa"))],
                         ["a", "aa", "not a", "not aa", "not oa", "oa"])
        self.assertEqual([write(form) for form in self.check(1, ("n", "z"))], ["n", "not n", "not z", "z"])

    def first(self, *arguments, **more):
        """Ask for the first normal form."""
        return next(normals(*arguments, **more))

    def test_invalid_numbers(self):
        for number in [0, 4, -1, True, False, None, "1", 10 ** 999, [1], (2,)]:
            self.assertRaises(InvalidNumber, self.first, number, ("a",))
            self.assertRaises(InvalidNumber, self.first, number, None)

    def test_invalid_names(self):
        for value in invalid_names_tuples():
            self.assertRaises(InvalidNames, self.first, 1, value)
            self.assertRaises(InvalidNames, self.first, 3, value)

    def test_two_iterators_side_by_side(self):
        one, other = normals(2, ("a", "b")), normals(2, ("a", "b"))
        found = [next(one), next(one), next(other), next(one), next(other)]
        self.assertEqual([write(form) for form in found], ["a and a", "a and b", "a and a", "a and not a", "a and b"])

    def test_the_end(self):
        iterator = normals(1, ("a",))
        self.assertEqual([next(iterator, None) for _ in range(4)], [A, ("not", A), None, None])


class Ways(unittest.TestCase):
    def test_all_numbers_and_sizes(self):
        for size in range(1, 9):
            total = 2
            for number in range(7):
                self.assertEqual(ways(number, size), total - 2)
                total = 2 + size * (total ** 2 - 2)

    def test_counts_the_trees_of_all_evaluations(self):
        for number, size in [(0, 1), (0, 8), (1, 1), (1, 8), (2, 1), (2, 2), (2, 3), (3, 1)]:
            self.assertEqual(ways(number, size), len({*trees(number, "abcdefgh"[:size])}) - 2)

    def test_counts_the_sorts_of_conditions(self):
        found = {code(condition) for condition in random_conditions(3000, 4, "a")}
        found = {rows for rows in found if len(rows) <= 3 and depth_of(rows) <= 2}
        self.assertEqual(len(found), ways(2, 1))

    def test_numbers_before_and_behind(self):
        for number, size in [(-1, 1), (7, 1), (0, 0), (0, 9), (7, 9), (True, 1), (False, 1), (0, True), (0, False)]:
            self.assertRaises(InvalidNumber, ways, number, size)


def depth_of(rows, at=0):
    """The greatest number of rows on a way through a code."""
    return 1 + max([depth_of(rows, target) for target in rows[at][1:] if isinstance(target, int)], default=0)


class Place(unittest.TestCase):
    def test_functions_are_defined_in_the_file_that_lists_them(self):
        for name in ["count", "normals", "ways"]:
            self.assertEqual(getattr(counting, name).__module__, "leftfirst.counting")


if __name__ == "__main__":
    unittest.main()
