"""Points 14 and 15: normal forms, factors and roots, basic forms, and the steps that lead to them."""

import itertools
import random
import unittest

from leftfirst import forms
from leftfirst.codes import code
from leftfirst.conditions import is_condition, tests
from leftfirst.errors import HasIf, InvalidKind, TooLarge
from leftfirst.forms import basic, factors, is_step, normal, root, way
from leftfirst.texts import read, write
from tests.checks import kinds
from tests.samples import A, B, C, D, E, bounds, flat, free_tree, nots, random_conditions, small_conditions

# A condition whose basic form has 60 tests, and two whose basic forms have 61.
SIXTY = ("and", ("or", A, B), flat("or", "c" * 29))
ONE_MORE = [("and", D, SIXTY), ("or", ("not", SIXTY), D, D)]

# For each rule, pairs of a condition and of what the rule makes of it as a whole.
RULES = {
    1: [
        ("not not a", "a"), ("not not (a or b)", "a or b"), ("not not not a", "not a"),
        ("not (a and b)", "not a or not b"), ("not (a and b and c)", "not a or not b or not c"),
        ("not (a or b)", "not a and not b"), ("not (a or b or c or d)", "not a and not b and not c and not d"),
        ("not (a and (b and c))", "not a or not (b and c)"), ("not (not a and b)", "not not a or not b"),
        ("not (b if a else c)", "not b if a else not c"),
        ("not (not b if not a else not c)", "not not b if not a else not not c"),
    ],
    2: [
        ("a and (b and c)", "a and b and c"), ("(a and b) and c", "a and b and c"),
        ("a and (b and c) and d", "a and b and c and d"), ("(a and b) and (c and d)", "a and b and (c and d)"),
        ("(a and b) and (c and d)", "(a and b) and c and d"), ("a or (b or c or d)", "a or b or c or d"),
        ("(a or b or c) or d", "a or b or c or d"), ("a or (b or (c or d))", "a or b or (c or d)"),
        ("a and (b and (c or d)) and e", "a and b and (c or d) and e"),
    ],
    3: [
        ("(a or b) and c", "c if a else b and c"), ("a and b or c", "b or c if a else c"),
        ("(a or b) and c and d", "c and d if a else b and c and d"),
        ("(a or b or c) and d", "d if a else (b or c) and d"),
        ("a and (b or c or d) and e and c", "a and (e and c if b else (c or d) and e and c)"),
        ("e and d and (a or b) and c", "e and d and (c if a else b and c)"),
        ("d or a and b or c", "d or (b or c if a else c)"),
        ("a and b and c or d or e", "b and c or d or e if a else d or e"),
        ("(not a or b) and c", "c if not a else b and c"),
        ("(a or b) and (c or d)", "c or d if a else b and (c or d)"),
        ("(a or b) and (c or d) and e", "(a or b) and (e if c else d and e)"),
    ],
    4: [
        ("(b if a else c) and d", "b and d if a else c and d"),
        ("(b if a else c) or d", "b or d if a else c or d"),
        ("(b if a else c) and d and e", "b and d and e if a else c and d and e"),
        ("e and (b if a else c) and d", "e and (b and d if a else c and d)"),
        ("e or d or (b if a else c) or d or e", "e or d or (b or d or e if a else c or d or e)"),
    ],
    5: [
        ("b if not a else c", "c if a else b"), ("b if not not a else c", "c if not a else b"),
        ("c if a and b else d", "(c if b else d) if a else d"),
        ("d if a and b and c else e", "(d if b and c else e) if a else e"),
        ("c if a or b else d", "c if a else c if b else d"),
        ("d if a or b or c else e", "d if a else d if b or c else e"),
        ("d if (b if a else c) else e", "(d if b else e) if a else d if c else e"),
    ],
}
# The same with members that are ands or ors, which stay as they are.
NESTED = [
    (("and", ("or", A, ("and", B, C)), D), ("if", A, D, ("and", ("and", B, C), D))),
    (("and", ("or", A, ("or", B, C)), D), ("if", A, D, ("and", ("or", B, C), D))),
    (("or", ("and", A, ("or", B, C)), D), ("if", A, ("or", ("or", B, C), D), D)),
    (("and", ("or", A, B), ("and", C, D)), ("if", A, ("and", C, D), ("and", B, ("and", C, D)))),
    (("and", ("if", A, ("and", B, C), D), E), ("if", A, ("and", ("and", B, C), E), ("and", D, E))),
    (("or", ("if", A, ("or", B, C), D), ("or", E, A)), ("if", A, ("or", ("or", B, C), ("or", E, A)),
                                                        ("or", D, ("or", E, A)))),
    (("and", A, ("and", ("and", B, C), D), E), ("and", A, ("and", B, C), D, E)),
    (("if", ("and", A, ("and", B, C)), D, E), ("if", A, ("if", ("and", B, C), D, E), E)),
    (("if", ("or", ("or", A, B), C), D, E), ("if", ("or", A, B), D, ("if", C, D, E))),
]
# Pairs of conditions that are close to a step, and none.
NO_STEPS = [
    ("a", "a"), ("a and b", "a and b"), ("a", "b"), ("a", "not a"), ("a", "not not not a"),
    ("not not not not a", "a"), ("a and b", "b and a"), ("not (a and b)", "not a and not b"),
    ("not (a and b)", "not a or b"), ("not (a or b)", "a and b"), ("not (a and b)", "not (a or b)"),
    ("not (a and (b and c))", "not a or not b or not c"), ("not not a and not not b", "a and b"),
    ("not (b if a else c)", "not b if not a else not c"), ("not (b if a else c)", "b if not a else c"),
    ("a and b", "a or b"), ("not (b if a else c)", "not c if a else not b"), ("not (not a and b)", "a or not b"),
    ("not (a or b)", "not a and not not b"), ("(a and b) and (c and d)", "a and b and c and d"),
    ("a and (b and (c and d))", "a and b and c and d"), ("a and (b or c)", "a and b or c"),
    ("a and (b or c)", "a and b and c"), ("a or (b or c)", "a or c or b"),
    ("a and (b and c) and d", "(a and b) and c and d"), ("a and (b and c)", "(a and b) and c"),
    ("(a or b) and c", "b and c if a else c"), ("(a or b) and c", "c if a else b"),
    ("(a or b) and c", "c if b else a and c"), ("(a or b or c) and d", "d if a else b or c and d"),
    ("(a or b or c) and d", "d if a else (b and c) and d"), ("(a or b or c) and d", "d if a or b else c and d"),
    ("(a or b) and c and d", "(c if a else b and c) and d"),
    ("(a or b) and c and d", "c and d if a else b and (c and d)"),
    ("(a or b) and c and d", "c and d if a else (b and c) and d"), ("e and (a or b) and c", "c if a else b and c"),
    ("e and (a or b) and c", "e and c if a else b and c"), ("c and (a or b)", "c if a else b and c"),
    ("c and (a or b)", "c and (a or b)"), ("(a and b) and c", "c if a else b and c"),
    ("a and b or c", "c if a else b or c"), ("(a or b) or c", "b or c if a else c"),
    ("a and b or c", "b or c if a else d"), ("d and (b if a else c)", "d and b if a else d and c"),
    ("(b if a else c) and d", "b and d if a else c or d"), ("(b if a else c) and d", "b and d if a else c"),
    ("(b if a else c) and d and e", "(b and d if a else c and d) and e"),
    ("(b if a else c) and d and e", "b and (d and e) if a else c and (d and e)"),
    ("(b if a else c) and d", "b if a else c and d"), ("b if not a else c", "b if a else c"),
    ("b if not not a else c", "b if a else d"), ("b if a else c", "c if a else b"),
    ("c if a and b else d", "(c if a else d) if b else d"), ("c if a and b else d", "c if a else c if b else d"),
    ("c if a or b else d", "(c if b else d) if a else d"), ("c if a or b else d", "c if b else c if a else d"),
    ("d if a and b and c else e", "(d if b or c else e) if a else e"),
    ("d if a and b and c else e", "(d if c else e) if a and b else e"),
    ("d if a or b or c else e", "d if a else d if b and c else e"),
    ("d if a or b or c else e", "d if a or b else d if c else e"),
    ("d if (b if a else c) else e", "(d if b else e) if a else e if c else d"),
    ("d if (b if a else c) else e", "d if a else d if c else e"),
    ("d if (b if a else c) else e", "(d if a else e) if b else d if c else e"), ("a and b or c", "a and (b or c)"),
]


def without_if(conditions):
    """Those conditions that contain no if."""
    return [condition for condition in conditions if "'if'" not in repr(condition)]


def is_normal(condition, outer=None):
    """Whether the condition is in normal form, inside a condition of this kind."""
    kind, *members = condition
    if kind == "test":
        return True
    if kind == "not":
        return members[0][0] == "test"
    return kind in ("and", "or") and kind != outer and all(is_normal(member, kind) for member in members)


def basic_of(tree):
    """The basic form for the tree of all evaluations of a condition."""
    name, yes, no = tree
    test = ("test", name)
    if isinstance(yes, str) and isinstance(no, str):
        return test if yes == "yes" else ("not", test)
    if isinstance(yes, str):
        return put_in("or", test, basic_of(no)) if yes == "yes" else put_in("and", ("not", test), basic_of(no))
    if isinstance(no, str):
        return put_in("and", test, basic_of(yes)) if no == "no" else put_in("or", ("not", test), basic_of(yes))
    return ("if", test, basic_of(yes), basic_of(no))


def put_in(kind, first, last):
    """The and or the or of these two, in which the members of the last one take its place."""
    return (kind, first, *last[1:]) if last[0] == kind else (kind, first, last)


def alone(kind, members):
    """The and or the or of these members, or the only one of them."""
    return (kind, *members) if len(members) > 1 else members[0]


def made_here(condition):
    """All conditions that a rule, from left to right, makes of this one as a whole."""
    match condition:
        case ("not", ("not", inner)):
            yield inner
        case ("not", ("and", *members)):
            yield ("or", *[("not", member) for member in members])
        case ("not", ("or", *members)):
            yield ("and", *[("not", member) for member in members])
        case ("not", ("if", asked, then, other)):
            yield ("if", asked, ("not", then), ("not", other))
        case ("if", ("not", asked), then, other):
            yield ("if", asked, other, then)
        case ("if", ("and", first, *rest), then, other):
            yield ("if", first, ("if", alone("and", rest), then, other), other)
        case ("if", ("or", first, *rest), then, other):
            yield ("if", first, then, ("if", alone("or", rest), then, other))
        case ("if", ("if", asked, yes, no), then, other):
            yield ("if", asked, ("if", yes, then, other), ("if", no, then, other))
        case (("and" | "or") as kind, *members):
            for at, member in enumerate(members):
                before, behind = members[:at], members[at + 1:]
                if member[0] == kind:
                    yield (kind, *before, *member[1:], *behind)
                if behind and member[0] == "if":
                    _, asked, then, other = member
                    yield alone(kind, [*before, ("if", asked, (kind, then, *behind), (kind, other, *behind))])
                if behind and member[0] == "or" and kind == "and":
                    rest = ("and", alone("or", member[2:]), *behind)
                    yield alone(kind, [*before, ("if", member[1], alone("and", behind), rest)])
                if behind and member[0] == "and" and kind == "or":
                    rest = ("or", alone("and", member[2:]), *behind)
                    yield alone(kind, [*before, ("if", member[1], rest, alone("or", behind))])


def made_of(condition):
    """All conditions that a rule, from left to right, makes of this one at any place."""
    yield from made_here(condition)
    if condition[0] != "test":
        for at in range(1, len(condition)):
            for made in made_of(condition[at]):
                yield (*condition[:at], made, *condition[at + 1:])


def places(condition):
    """Conditions in which this one stands at many places."""
    for inner in (condition, ("not", condition), ("and", A, condition), ("or", ("and", condition, E), D),
                  ("if", condition, A, B)):
        yield from [inner, ("and", inner, E), ("and", E, inner), ("or", D, inner, D), ("not", inner)]
        yield from [("if", inner, D, E), ("if", D, inner, E), ("if", D, E, inner),
                    nots(40, ("or", B, nots(20, inner), C))]


class Examples(unittest.TestCase):
    def test_examples(self):
        self.assertEqual(write(normal(read("not (a and not (b and c))"))), "not a or b and c")
        self.assertEqual(write(basic(read("(a or b) and c"))), "c if a else b and c")
        found = [write(one) for one in factors(read("a and (b and c) and (a or b)"), "and")]
        self.assertEqual(found, ["a", "b", "c", "a or b"])
        found = [(write(one), number) for one, number in [root(read("(a or b) and (a or b)"), "and"),
                                                          root(read("a or b"), "and")]]
        self.assertEqual(found, [("a or b", 2), ("a or b", 1)])
        self.assertIs(is_step(read("a and (b or c or d) and e and f"),
                              read("a and (e and f if b else (c or d) and e and f)")), True)


class Normal(unittest.TestCase):
    def check(self, condition):
        """Check the normal form, and return it."""
        found = normal(condition)
        self.assertIs(is_condition(found), True)
        self.assertEqual(kinds(found), {tuple, str})
        self.assertTrue(is_normal(found), found)
        self.assertEqual(code(found), code(condition))
        self.assertEqual(tests(found), tests(condition))
        self.assertEqual(normal(found), found)
        return found

    def test_small_conditions(self):
        for condition in without_if(small_conditions()):
            self.check(condition)

    def test_random_conditions(self):
        for condition in [*random_conditions(200, 60, "abc", False), *random_conditions(200, 10, "a", False)]:
            self.check(condition)

    def test_conditions_at_the_bounds(self):
        for condition, _ in bounds().values():
            if "'if'" not in repr(condition):
                self.check(condition)

    def test_free_equal_conditions_have_the_same_normal_form_and_others_have_not(self):
        trees = {}
        conditions = [*without_if(small_conditions())[::5], *random_conditions(1500, 4, "ab", False)]
        for condition in conditions:
            tree = free_tree(condition)
            trees.setdefault(tree, normal(condition))
            self.assertEqual(normal(condition), trees[tree])
        self.assertEqual(len({*trees.values()}), len(trees))
        self.assertGreater(len(conditions), len(trees) + 1000)

    def test_nots_and_brackets(self):
        for text, expected in [("not not a", "a"), ("not not not a", "not a"), ("not (a or not b)", "not a and b"),
                               ("(a and b) and (c and (d and e))", "a and b and c and d and e"),
                               ("a or (b or c) or d", "a or b or c or d"),
                               ("not (a and b) or c", "not a or not b or c"),
                               ("not (a or b) and c", "not a and not b and c"),
                               ("not (not (a and b) and not (c or d))", "a and b or c or d"),
                               ("a and (b or c)", "a and (b or c)")]:
            self.assertEqual(write(self.check(read(text))), expected)

    def test_has_if(self):
        for text in ["b if a else c", "not (b if a else c)", "a and (b if a else c)", "(b if a else c) or d",
                     "a or not (b and (a if a else a))",
                     "b if a else a if b else c", "(a if b else c) if a else b", "a if (a if b else c) else b"]:
            for function, *more in [(normal,), (factors, "and"), (factors, "or"), (root, "and"), (root, "or")]:
                self.assertRaises(HasIf, function, read(text), *more)

    def test_kinds_come_before_has_if(self):
        for function in (factors, root):
            self.assertRaises(InvalidKind, function, read("b if a else c"), "if")
            self.assertRaises(InvalidKind, function, read("b if a else c"), None)

    def test_names_that_are_kinds_of_conditions(self):
        self.assertEqual(normal(("not", ("test", "test"))), ("not", ("test", "test")))
        self.assertEqual(normal(("not", ("and", ("test", "test"), ("test", "yes")))), read("not test or not yes"))


class FactorsAndRoots(unittest.TestCase):
    def check(self, condition, kind):
        """Check the factors and the root, and return both."""
        found = factors(condition, kind)
        self.assertIs(type(found), list)
        for factor in found:
            self.assertTrue(is_normal(factor))
            self.assertNotEqual(factor[0], kind)
        self.assertEqual(code(alone(kind, found)), code(condition))
        power, number = root(condition, kind)
        self.assertIs(type(number), int)
        self.assertIs(type(root(condition, kind)), tuple)
        self.assertTrue(is_normal(power))
        self.assertEqual(alone(kind, factors(power, kind) * number), normal(condition))
        self.assertEqual(code(alone(kind, [power] * number)), code(condition))
        # No greater number is possible.
        for greater in range(number + 1, len(found) + 1):
            self.assertNotEqual(found[:len(found) // greater] * greater, found)
        return found, (power, number)

    def test_small_conditions(self):
        for condition in without_if(small_conditions())[::3]:
            for kind in ("and", "or"):
                self.check(condition, kind)

    def test_random_conditions(self):
        for condition in [*random_conditions(150, 60, "ab", False), *random_conditions(300, 8, "a", False)]:
            for kind in ("and", "or"):
                self.check(condition, kind)

    def test_one_member(self):
        for text, kind in [("a", "and"), ("a", "or"), ("not a", "and"), ("a or b", "and"), ("a and b", "or"),
                           ("not (a and b)", "and"),
                           ("not (a or b)", "or"), ("a or b and c", "and")]:
            self.assertEqual(self.check(read(text), kind), ([normal(read(text))], (normal(read(text)), 1)))

    def test_several_members(self):
        for text, kind, expected in [
            ("a and b and c", "and", ["a", "b", "c"]), ("not (a and b)", "or", ["not a", "not b"]),
            ("a and not (b or c)", "and",
             ["a", "not b", "not c"]), ("(a or b) or not (c and (d or e))", "or",
                                        ["a", "b", "not c", "not d and not e"]),
            ("(a and b or c) and (d and (a or b))", "and", ["a and b or c", "d", "a or b"]),
            ("not not (a or a)", "or", ["a", "a"]),
        ]:
            self.assertEqual([write(factor) for factor in self.check(read(text), kind)[0]], expected)

    def test_the_list_belongs_to_the_caller(self):
        found = factors(flat("and", "abc"), "and")
        found.clear()
        self.assertEqual(len(factors(flat("and", "abc"), "and")), 3)

    def test_conditions_that_are_made_of_one_other_so_many_times(self):
        for text in ["a", "not a", "a or b", "a or not b or c", "a and b or c", "(a or b) and c"]:
            part = read(text)
            for kind, number in itertools.product(("and", "or"), [1, 2, 3, 4, 6, 11]):
                power, many = root(part, kind)
                condition = alone(kind, [part] * number)
                self.assertEqual(self.check(condition, kind)[1], (power, many * number))
                self.assertEqual(self.check(("not", ("not", condition)), kind)[1], (power, many * number))
                other = "or" if kind == "and" else "and"
                self.assertEqual(self.check(("not", alone(other, [("not", part)] * number)), kind)[1],
                                 (power, many * number))

    def test_powers(self):
        for text, kind, expected in [("a and a", "and", ("a", 2)), ("a and a", "or", ("a and a", 1)),
                                     ("a and b and a and b", "and",
                                     ("a and b", 2)), ("a and (b and a) and b", "and", ("a and b", 2)),
                                     ("a and b and a", "and",
                                     ("a and b and a", 1)), ("a or b or b or a or b or b", "or", ("a or b or b", 2)),
                                     ("not (a and b or a and b)", "and", ("not a or not b", 2)),
                                     ("a and a and b", "and",
                                     ("a and a and b", 1)), ("a and b and b and a", "and", ("a and b and b and a", 1))]:
            power, number = root(read(text), kind)
            self.assertEqual((write(power), number), expected)

    def test_sixty_times(self):
        self.assertEqual(root(flat("and", "a" * 60), "and"), (A, 60))
        self.assertEqual(root(flat("or", "ab" * 30), "or"), (("or", A, B), 30))
        self.assertEqual(root(flat("or", "a" * 59), "or"), (A, 59))
        self.assertEqual(root(flat("and", "a" * 30 + "b" * 30), "and"), (flat("and", "a" * 30 + "b" * 30), 1))

    def test_exchanged_if_and_only_if_the_roots_are_the_same(self):
        conditions = [alone("and", part) for number in (1, 2, 3, 4) for part in itertools.product([A, B],
                                                                                                  repeat=number)]
        conditions += [read("a or b"), read("(a or b) and (a or b)"), read("not (a or b)"), read("not a")]
        for one, other in itertools.product(conditions, repeat=2):
            for kind in ("and", "or"):
                same = free_tree((kind, one, other)) == free_tree((kind, other, one))
                self.assertEqual(root(one, kind)[0] == root(other, kind)[0], same)


class Basic(unittest.TestCase):
    def check(self, condition):
        """Check the basic form, and return it."""
        found = basic(condition)
        self.assertEqual(found, basic_of(free_tree(condition)))
        self.assertIs(is_condition(found), True)
        self.assertEqual(kinds(found), {tuple, str})
        self.assertEqual(code(found), code(condition))
        self.assertEqual(basic(found), found)
        return found

    def test_small_conditions(self):
        for condition in small_conditions()[:2400:2]:
            self.check(condition)

    def test_random_conditions(self):
        right = 0
        for condition in [*random_conditions(150, 12, "abc"), *random_conditions(100, 60, "a", seed=4)]:
            try:
                basic(condition)
            except TooLarge:
                continue
            self.check(condition)
            right += 1
        self.assertGreater(right, 130)

    def test_forms(self):
        for text in ["a", "not a", "a and b", "not a and b", "a or b", "not a or b", "c if a else b",
                     "not b if a else not c",
                     "a and b and not c", "a and (b or c and d)", "a or not b and (c if d else e)",
                     "b and c if a else a or b"]:
            self.assertEqual(write(self.check(read(text))), text)
        for text, expected in [("not (a and b)", "not a or not b"), ("b if not a else c", "c if a else b"),
                               ("a and (b and c)", "a and b and c"),
                               ("a and b or c", "b or c if a else c"),
                               ("(b if a else c) and d", "b and d if a else c and d"),
                               ("b if a else b", "b if a else b"), ("a and not (b or c)", "a and not b and not c"),
                               ("c if a and b else d", "(c if b else d) if a else d"),
                               ("a if a else b", "a if a else b")]:
            self.assertEqual(write(self.check(read(text))), expected)

    def test_sixty_tests_and_one_more(self):
        self.assertEqual(len(tests(self.check(SIXTY))), 60)
        for condition in ONE_MORE:
            self.assertRaises(TooLarge, basic, condition)
        self.assertEqual(self.check(flat("and", "a" * 60)), flat("and", "a" * 60))
        self.assertRaises(TooLarge, basic, ("and", *[("or", A, B)] * 30))
        self.assertRaises(TooLarge, basic, ("if", SIXTY, A, B))

    def test_conditions_at_the_bounds(self):
        for condition, _ in bounds().values():
            try:
                self.assertEqual(code(basic(condition)), code(condition))
            except TooLarge:
                self.assertGreater(len(tests(condition)), 16)


class Steps(unittest.TestCase):
    def check(self, one, other, expected):
        """Check is_step in both directions."""
        self.assertIs(is_step(one, other), expected, (one, other))
        self.assertIs(is_step(other, one), expected, (one, other))

    def test_each_rule_as_a_whole(self):
        for found in RULES.values():
            for one, other in found:
                self.assertIn(read(other), [*made_here(read(one))], (one, other))
                self.check(read(one), read(other), True)

    def test_each_rule_deep_inside(self):
        for found in RULES.values():
            for one, other in found:
                for outer, outer_other in zip(places(read(one)), places(read(other))):
                    self.check(outer, outer_other, True)

    def test_members_that_are_ands_or_ors_stay(self):
        for one, other in NESTED:
            for outer, outer_other in zip(places(one), places(other)):
                self.check(outer, outer_other, True)

    def test_pairs_that_are_close_to_a_step(self):
        for one, other in NO_STEPS:
            for outer, outer_other in zip(places(read(one)), places(read(other))):
                self.check(outer, outer_other, False)

    def test_members_put_into_another_and_or_or_in_passing(self):
        for one, other in NESTED:
            for part in (one, other):
                for made in made_of(part):
                    if made not in (one, other):
                        self.check(one, made, made in made_of(one) or one in made_of(made))
        self.check(read("a and (b and (c or d)) and e"), read("a and b and (e if c else d and e)"), False)
        self.check(("and", ("or", A, ("and", B, C)), D), ("if", A, D, ("and", B, C, D)), False)
        self.check(("or", ("and", A, ("or", B, C)), D), ("if", A, ("or", B, C, D), D), False)
        self.check(("and", ("or", A, B), ("and", C, D)), ("if", A, ("and", C, D), ("and", B, C, D)), False)
        self.check(("and", A, ("if", B, ("and", C, D), E), E), ("and", A, ("if", B, ("and", C, D, E), ("and", E, E))),
                   False)
        self.check(("not", ("and", A, ("or", B, C))), ("or", ("not", A), ("and", ("not", B), ("not", C))), False)
        self.check(("and", A, ("not", ("or", B, C))), ("and", A, ("not", B), ("not", C)), False)

    def test_another_kind_or_number_of_members_around_a_step(self):
        for found in RULES.values():
            for one, other in found:
                one, other = read(one), read(other)
                self.check(("and", one, E), ("or", other, E), False)
                self.check(("or", E, one, D), ("and", E, other, D), False)
                self.check(("and", E, one), ("and", E, other, E), False)
                self.check(("or", one, E, D), ("or", other, E), False)
                self.check(("if", one, D, E), ("and", other, D, E), False)
                self.check(("if", one, D, E), ("if", other, E, D), False)
                self.check(("if", one, D, E), ("if", D, other, E), False)

    def test_two_steps_at_once(self):
        pairs = [pair for found in RULES.values() for pair in found]
        for (one, other), (third, fourth) in zip(pairs, pairs[1:]):
            for kind in ("and", "or"):
                self.check((kind, read(one), read(third), E), (kind, read(other), read(fourth), E), False)
            self.check(("if", D, read(one), read(third)), ("if", D, read(other), read(fourth)), False)

    def test_no_step_from_a_condition_to_itself(self):
        for condition in small_conditions()[::9]:
            self.assertIs(is_step(condition, condition), False)

    def test_every_pair_of_what_rules_make_of_some_conditions(self):
        source = random.Random(1)
        start = ["not (a or not (b and a)) and b", "(a or b) and (b or a) and a", "a if not (a and b) else a or b",
                 "(a if b else b and a) or a and b"]
        for text in start:
            found = {read(text): True}
            for condition in itertools.islice(iter_growing(found), 60):
                for made in made_of(condition):
                    if len(found) < 90:
                        found[made] = True
            for one, other in itertools.product(found, repeat=2):
                if source.random() < 0.5:
                    self.check(one, other, other in made_of(one) or one in made_of(other))

    def test_conditions_at_the_bounds(self):
        found = [condition for condition, _ in bounds().values()]
        for one, other in itertools.product(found, repeat=2):
            self.check(one, other, False)
        for condition in found:
            for made in itertools.islice((made for made in made_of(condition) if is_condition(made)), 5):
                self.check(condition, made, True)


def iter_growing(found):
    """The keys of a dict, also those that are added on the way."""
    at = 0
    while at < len(found):
        yield [*found][at]
        at += 1


class Way(unittest.TestCase):
    def check(self, one, other):
        """Check the way between free equal conditions, and return it."""
        found = way(one, other)
        self.assertIs(type(found), list)
        self.assertEqual((found[0], found[-1]), (one, other))
        for condition in found:
            self.assertIs(is_condition(condition), True)
            self.assertEqual(kinds(condition), {tuple, str})
        for before, behind in zip(found, found[1:]):
            self.assertTrue(behind in made_of(before) or before in made_of(behind), (before, behind))
            self.assertIs(is_step(before, behind), True)
        return found

    def test_both_sides_of_each_rule(self):
        for found in RULES.values():
            for one, other in found:
                self.check(read(one), read(other))
                self.check(read(other), read(one))
        for one, other in NESTED:
            self.check(one, other)

    def test_the_same_condition(self):
        for condition in [*small_conditions()[::37], *[condition for condition, _ in bounds().values()]]:
            try:
                basic(condition)
            except TooLarge:
                self.assertRaises(TooLarge, way, condition, condition)
            else:
                self.assertEqual(way(condition, condition), [condition])

    def test_to_the_basic_form_and_to_not_not(self):
        for condition in [*small_conditions()[:2400:11], *random_conditions(150, 14, "abc"),
                          *random_conditions(80, 60, "a")]:
            try:
                found = basic(condition)
            except TooLarge:
                self.assertRaises(TooLarge, way, condition, condition)
                continue
            self.check(condition, found)
            self.check(nots(2, condition), nots(4, condition))

    def test_all_pairs_of_free_equal_conditions(self):
        groups = {}
        for condition in [*small_conditions()[:2400:7], *random_conditions(500, 4, "ab")]:
            groups.setdefault(free_tree(condition), []).append(condition)
        pairs = [pair for group in groups.values() for pair in itertools.combinations(group[:6], 2)]
        self.assertGreater(len(pairs), 200)
        for one, other in pairs:
            self.check(one, other)

    def test_none(self):
        for one, other in [("a", "b"), ("a", "not a"), ("a and b", "b and a"), ("a", "a and a"),
                           ("b if a else c", "a and b or not a and c")]:
            self.assertIsNone(way(read(one), read(other)))

    def test_none_also_where_a_basic_form_is_too_large(self):
        for condition in ONE_MORE:
            self.assertIsNone(way(condition, A))
            self.assertIsNone(way(A, condition))
            self.assertIsNone(way(condition, ("not", condition)))

    def test_too_large_because_of_the_basic_form(self):
        for condition in ONE_MORE:
            self.assertRaises(TooLarge, way, condition, nots(2, condition))
            self.assertRaises(TooLarge, way, condition, condition)
        self.check(SIXTY, nots(2, SIXTY))
        self.check(basic(SIXTY), SIXTY)

    def test_too_large_because_of_the_names_comes_first(self):
        eight = flat("or", "abcdefgh")
        self.assertRaises(TooLarge, way, eight, ("test", "i"))
        self.assertRaises(TooLarge, way, ("test", "i"), eight)
        self.assertRaises(TooLarge, way, flat("and", "abcd"), flat("and", "efghi"))
        self.assertIsNone(way(flat("and", "abcd"), flat("and", "efgh")))
        self.assertEqual(way(eight, eight), [eight])

    def test_conditions_at_the_bounds(self):
        for name, (condition, _) in bounds().items():
            with self.subTest(name):
                try:
                    found = basic(condition)
                except TooLarge:
                    continue
                self.check(condition, found)
                self.check(found, condition)

    def test_many_nots(self):
        self.check(nots(79, A), nots(1, A))
        self.check(nots(78, A), A)
        condition = ("and", *[nots(6, ("or", A, ("not", B)))] * 20, nots(50, C))
        self.assertRaises(TooLarge, way, condition, condition)
        condition = ("not", ("and", *[nots(3, ("and", A, nots(3, ("or", A, B))))] * 15, nots(60, C)))
        self.assertIs(is_condition(condition), True)
        self.check(("or", *[nots(10, flat("or", "abc"))] * 19), flat("or", "abc" * 19))
        self.check(nots(61, ("and", *[nots(2, A)] * 60)), ("or", *[("not", A)] * 60))

    def test_rule_1_before_the_others(self):
        # If rule 5 were used first here, there would be more than 200 nots, or a condition more than 80 deep.
        self.check(("if", flat("and", "c" * 20), A, nots(77, B)), basic(("if", flat("and", "c" * 20), A, nots(77, B))))
        deep = B
        for _ in range(35):
            deep = ("not", ("and", A, deep))
        condition = ("if", flat("and", "c" * 11), deep, A)
        self.assertEqual(len(tests(basic(condition))), 58)
        self.check(condition, basic(condition))

    def test_deep_conditions(self):
        condition = A
        for k in range(39):
            condition = ("and", condition, B) if k % 2 else ("not", ("and", ("not", condition), B))
        self.assertIs(is_condition(condition), True)
        self.assertRaises(TooLarge, way, condition, condition)
        condition = A
        for k in range(26):
            condition = nots(2, ("and", B, condition))
        self.check(condition, flat("and", "b" * 26 + "a"))
        self.check(("not", condition), ("or", *[("not", B)] * 26, ("not", A)))

    def test_the_list_belongs_to_the_caller(self):
        way(A, nots(2, A)).clear()
        self.assertEqual(way(A, nots(2, A)), [A, nots(2, A)])


class Place(unittest.TestCase):
    def test_functions_are_defined_in_the_file_that_lists_them(self):
        for name in ["normal", "factors", "root", "basic", "is_step", "way"]:
            self.assertEqual(getattr(forms, name).__module__, "leftfirst.forms")


if __name__ == "__main__":
    unittest.main()
