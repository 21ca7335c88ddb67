"""Points 3 and 9: names and conditions, their bounds, and what is made of conditions."""

import unittest

from leftfirst import conditions
from leftfirst.conditions import dual, is_condition, names, replaced, tests
from leftfirst.errors import TooLarge
from tests.samples import A, B, C, D, E, RESERVED
from tests.samples import bounds, flat, invalid_conditions, invalid_names, mixed_depth, nots, plain_values
from tests.samples import small_conditions, unchanged


def places(value, at=()):
    """All places in a condition: where a part, a name or the word of a kind stands."""
    found = [at]
    if isinstance(value, tuple):
        for k, part in enumerate(value):
            found += places(part, (*at, k))
    return found


def put(value, at, new):
    """The value with new at this place."""
    if not at:
        return new
    return (*value[:at[0]], put(value[at[0]], at[1:], new), *value[at[0] + 1:])


class Form(unittest.TestCase):
    def test_each_kind_of_condition(self):
        for condition in small_conditions()[:2500:3]:
            self.assertIs(is_condition(condition), True, condition)

    def test_ands_and_ors_of_many_members(self):
        for kind in ("and", "or"):
            for number in (2, 3, 4, 10, 60):
                self.assertIs(is_condition((kind, *[A] * number)), True)

    def test_ands_and_ors_of_one_member_or_none(self):
        for kind in ("and", "or"):
            self.assertIs(is_condition((kind, A)), False)
            self.assertIs(is_condition((kind,)), False)
            self.assertIs(is_condition(("not", (kind, A))), False)

    def test_names(self):
        for name in ["a", "z", "m", "abcdefgh", "zzzzzzzz", "yes", "no", "test", "fails", "note", "nota", "iffy", "ifs",
                     "order", "ors", "andy", "ands", "elsewher", "elses", "els", "an", "o", "i", "no", "el", "is", "in",
                     "for", "def", "true", "none", "lambda", "xor", "nor", "elif", "band", "forif"]:
            with self.subTest(name):
                self.assertIs(is_condition(("test", name)), True)
                self.assertIs(is_condition(("and", ("not", ("test", name)), A)), True)

    def test_no_names(self):
        for name in [*invalid_names(), "elsewhere", *[word.upper() for word in RESERVED]]:
            with self.subTest(repr(name)[:60]):
                self.assertIs(is_condition(("test", name)), False)
                self.assertIs(is_condition(("or", A, ("not", ("test", name)))), False)

    def test_values_that_are_no_conditions(self):
        for value in invalid_conditions():
            with self.subTest(repr(value)[:60]):
                self.assertIs(unchanged(self, is_condition, value), False)

    def test_values_that_are_no_conditions_inside_of_conditions(self):
        for value in invalid_conditions():
            for outer in [("not", value), ("and", value, A), ("and", A, value), ("or", A, value, B), ("if", value, A, B),
                          ("if", A, value, B), ("if", A, B, value)]:
                with self.subTest(repr(outer)[:60]):
                    self.assertIs(is_condition(outer), False)

    def test_other_kinds_of_values_at_every_place(self):
        condition = ("if", ("and", A, ("not", B)), ("or", C, A, ("not", ("not", B))), ("if", A, B, C))
        self.assertIs(is_condition(condition), True)
        for at in places(condition):
            for value in plain_values():
                with self.subTest(at=at, value=repr(value)[:60]):
                    self.assertIs(is_condition(put(condition, at, value)), False)

    def test_missing_and_additional_members_at_every_place(self):
        condition = ("if", ("and", A, ("not", B)), ("or", C, A), ("if", A, B, ("not", C)))
        for at in places(condition):
            part = condition
            for k in at:
                part = part[k]
            if isinstance(part, tuple):
                with self.subTest(at=at):
                    self.assertIs(is_condition(put(condition, at, part[:-1])), False)
                    self.assertIs(is_condition(put(condition, at, part[1:])), False)
                    self.assertIs(is_condition(put(condition, at, list(part))), False)
                    longer = is_condition(put(condition, at, (*part, A)))
                    self.assertIs(longer, part[0] in ("and", "or"))


class Bounds(unittest.TestCase):
    def test_at_each_bound_and_one_beyond(self):
        for name, (at_bound, beyond) in bounds().items():
            with self.subTest(name):
                self.assertIs(is_condition(at_bound), True)
                self.assertIs(is_condition(beyond), False)

    def test_all_bounds_at_once(self):
        chains = [nots(78, ("test", name)) for name in "ab"]
        condition = ("or", *chains, *[("test", "abcdefgh"[k % 8]) for k in range(58)])
        self.assertIs(is_condition(condition), True)
        self.assertIs(is_condition(("or", ("test", "a"), *condition[1:])), False)
        self.assertIs(is_condition(("or", *condition[1:-1], ("test", "i"))), False)
        self.assertIs(is_condition(("or", *condition[1:-1], nots(44, A))), True)
        self.assertIs(is_condition(("or", *condition[1:-1], nots(45, A))), False)
        self.assertIs(is_condition(("not", condition)), False)

    def test_names_of_1_and_8_letters_and_beyond(self):
        for length, holds in [(0, False), (1, True), (8, True), (9, False)]:
            self.assertIs(is_condition(("test", "n" * length)), holds)

    def test_the_same_condition_at_two_places_counts_twice(self):
        half = flat("or", "a" * 30)
        self.assertIs(is_condition(("and", half, half)), True)
        self.assertIs(is_condition(("and", half, half, A)), False)


class Tests(unittest.TestCase):
    def test_from_left_to_right(self):
        self.assertEqual(tests(A), ["a"])
        self.assertEqual(tests(("not", ("not", B))), ["b"])
        self.assertEqual(tests(("and", C, A, B)), ["c", "a", "b"])
        self.assertEqual(tests(("or", ("and", D, A), C, ("not", ("or", B, A)))), ["d", "a", "c", "b", "a"])

    def test_in_an_if_c_stands_before_x_and_x_before_y(self):
        self.assertEqual(tests(("if", C, A, B)), ["c", "a", "b"])
        nested = ("if", ("if", E, D, C), ("if", B, A, E), ("and", D, ("if", C, B, A)))
        self.assertEqual(tests(nested), ["e", "d", "c", "b", "a", "e", "d", "c", "b", "a"])

    def test_each_test_as_often_as_it_stands(self):
        self.assertEqual(tests(("and", A, A, ("or", A, B), A)), ["a", "a", "a", "b", "a"])
        self.assertEqual(tests(flat("or", "a" * 60)), ["a"] * 60)

    def test_at_the_bounds(self):
        for name, (condition, _) in bounds().items():
            with self.subTest(name):
                self.assertEqual(tests(condition), list(flattened(condition)))

    def test_the_list_belongs_to_the_caller(self):
        condition = ("and", A, B)
        found = tests(condition)
        self.assertIs(type(found), list)
        found.append("c")
        found[0] = "d"
        self.assertEqual(tests(condition), ["a", "b"])
        self.assertIsNot(tests(condition), tests(condition))


def flattened(condition):
    """The names of the tests of a condition, from left to right."""
    if condition[0] == "test":
        yield condition[1]
    else:
        for part in condition[1:]:
            yield from flattened(part)


class Names(unittest.TestCase):
    def test_ascending_and_different(self):
        self.assertEqual(names(A), ("a",))
        self.assertEqual(names(("and", C, A, ("not", B), A)), ("a", "b", "c"))
        self.assertEqual(names(("if", C, ("or", B, C), A)), ("a", "b", "c"))
        self.assertEqual(names(("or", ("test", "b"), ("test", "ab"), ("test", "aa"), ("test", "a"))), ("a", "aa", "ab", "b"))
        self.assertIs(type(names(("and", B, B))), tuple)
        self.assertEqual(names(("and", B, B)), ("b",))

    def test_eight_names(self):
        self.assertEqual(names(flat("or", "hgfedcbaabcdefgh")), tuple("abcdefgh"))


def substituted(condition, name, other):
    """What replaced should return."""
    if condition == ("test", name):
        return other
    if condition[0] == "test":
        return condition
    return tuple([condition[0]] + [substituted(part, name, other) for part in condition[1:]])


class Replaced(unittest.TestCase):
    def test_every_test_of_the_name(self):
        other = ("or", C, ("not", D))
        self.assertEqual(replaced(A, "a", other), other)
        self.assertEqual(replaced(("and", A, B, ("not", A)), "a", other), ("and", other, B, ("not", other)))
        self.assertEqual(replaced(("if", A, B, A), "a", other), ("if", other, B, other))
        self.assertEqual(replaced(("if", B, A, ("or", B, B)), "b", A), ("if", A, A, ("or", A, A)))

    def test_nothing_else_is_changed(self):
        self.assertEqual(replaced(("and", A, B), "a", ("and", C, D)), ("and", ("and", C, D), B))
        self.assertEqual(replaced(("not", A), "a", ("not", B)), ("not", ("not", B)))
        self.assertEqual(replaced(("or", ("test", "aa"), A), "a", B), ("or", ("test", "aa"), B))
        self.assertEqual(replaced(("or", ("test", "test"), A), "test", B), ("or", B, A))

    def test_where_the_name_does_not_occur(self):
        for condition in [A, ("if", A, B, ("not", C)), ("test", "zz"), flat("and", "a" * 60)]:
            self.assertEqual(replaced(condition, "z", flat("or", "bcdefghi" * 7)), condition)

    def test_where_other_holds_the_name(self):
        self.assertEqual(replaced(("and", A, B), "a", ("not", A)), ("and", ("not", A), B))
        self.assertEqual(replaced(("and", A, A), "a", ("or", A, B)), ("and", ("or", A, B), ("or", A, B)))
        self.assertEqual(replaced(A, "a", A), A)

    def test_many_conditions(self):
        for condition in small_conditions()[:2500:7]:
            for other in [C, ("and", B, A), ("if", B, C, A)]:
                for name in ("a", "b", "note"):
                    self.assertEqual(replaced(condition, name, other), substituted(condition, name, other))

    def test_sixty_tests_and_one_more(self):
        self.check_bound(("and", *[A] * 20), flat("or", "bcb"), ("and", *[A] * 20, B))
        self.check_bound(("if", A, ("or", B, B), ("not", A)), ("or", *[C] * 28, D), ("if", A, ("or", B, B, B), A))
        self.assertEqual(len(tests(replaced(A, "a", flat("or", "b" * 60)))), 60)
        self.assertRaises(TooLarge, replaced, ("not", ("and", A, B)), "a", flat("or", "b" * 60))
        self.assertRaises(TooLarge, replaced, flat("and", "a" * 60), "a", flat("or", "a" * 60))

    def test_two_hundred_nots_and_one_more(self):
        self.check_bound(("and", A, A, A, A), nots(50, B), ("and", A, A, ("not", A), A))
        self.check_bound(("if", A, A, nots(11, A)), nots(63, A), ("if", A, A, nots(12, A)))

    def test_eight_names_and_one_more(self):
        eight = flat("or", "abcdefgh")
        self.assertEqual(replaced(eight, "a", ("test", "i")), flat("or", "ibcdefgh"))
        self.assertEqual(replaced(eight, "a", ("and", A, B)), ("or", ("and", A, B), *eight[2:]))
        self.assertRaises(TooLarge, replaced, eight, "a", ("and", A, ("test", "i")))
        self.assertRaises(TooLarge, replaced, flat("or", "abcd"), "a", flat("or", "efghij"))

    def test_eighty_deep_and_one_deeper(self):
        self.check_bound(nots(40, A), nots(39, B), nots(41, A))
        self.check_bound(("or", B, nots(30, A)), mixed_depth(49), ("or", B, nots(31, A)))
        self.assertEqual(replaced(nots(79, A), "a", B), nots(79, B))
        self.assertRaises(TooLarge, replaced, nots(79, A), "a", ("or", B, C))
        self.assertRaises(TooLarge, replaced, nots(79, A), "a", nots(79, A))

    def check_bound(self, condition, other, larger):
        """Check that condition leads to the bound, and larger beyond it."""
        outcome = replaced(condition, "a", other)
        self.assertEqual(outcome, substituted(condition, "a", other))
        self.assertIs(is_condition(outcome), True)
        self.assertIs(is_condition(larger), True)
        self.assertRaises(TooLarge, replaced, larger, "a", other)


class Dual(unittest.TestCase):
    def test_each_kind(self):
        self.assertEqual(dual(A), A)
        self.assertEqual(dual(("not", A)), ("not", A))
        self.assertEqual(dual(("and", A, B, C)), ("or", A, B, C))
        self.assertEqual(dual(("or", A, B)), ("and", A, B))
        self.assertEqual(dual(("if", A, B, C)), ("if", A, C, B))

    def test_at_every_place(self):
        self.assertEqual(dual(("not", ("and", A, ("or", B, C)))), ("not", ("or", A, ("and", B, C))))
        self.assertEqual(
            dual(("if", ("and", A, B), ("or", B, C), ("not", ("if", ("or", C, A), D, ("and", D, E))))),
            ("if", ("or", A, B), ("not", ("if", ("and", C, A), ("or", D, E), D)), ("and", B, C)))

    def test_twice_gives_the_condition_back(self):
        for condition in small_conditions()[:2500:5]:
            self.assertEqual(dual(dual(condition)), condition)
            self.assertIs(is_condition(dual(condition)), True)

    def test_at_the_bounds(self):
        for name, (condition, _) in bounds().items():
            with self.subTest(name):
                self.assertEqual(dual(dual(condition)), condition)

    def test_asks_the_same_and_ends_the_other_way_if_answers_are_turned(self):
        for condition in small_conditions()[:2500:11]:
            for answers in range(64):
                given = ["yes" if answers >> k & 1 else "no" for k in range(6)] * 10
                turned = ["no" if answer == "yes" else "yes" for answer in given]
                asked, end = evaluated(condition, given)
                self.assertEqual(evaluated(dual(condition), turned), (asked, "no" if end == "yes" else "yes"))


def evaluated(condition, answers):
    """The names that are asked and the end."""
    kind = condition[0]
    if kind == "test":
        return [condition[1]], answers[0]
    asked, end = evaluated(condition[1], answers)
    if kind == "not":
        return asked, "no" if end == "yes" else "yes"
    if kind == "if":
        more, end = evaluated(condition[2] if end == "yes" else condition[3], answers[len(asked):])
        return asked + more, end
    for part in condition[2:]:
        if end == ("no" if kind == "and" else "yes"):
            break
        more, end = evaluated(part, answers[len(asked):])
        asked = asked + more
    return asked, end


class Place(unittest.TestCase):
    def test_functions_are_defined_in_the_file_that_lists_them(self):
        for name in ["is_condition", "tests", "names", "replaced", "dual"]:
            self.assertEqual(getattr(conditions, name).__module__, "leftfirst.conditions")


if __name__ == "__main__":
    unittest.main()
