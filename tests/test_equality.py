"""Points 5 and 13: the four strengths of equality, and what shows that two conditions are not equal."""

import functools
import itertools
import unittest

from leftfirst import equality
from leftfirst.codes import code
from leftfirst.conditions import names
from leftfirst.equality import difference, equal, memory_difference, memory_run, steady_difference, strongest
from leftfirst.equality import truth_difference
from leftfirst.errors import InvalidAnswers, TooLarge
from leftfirst.outcome import outcome_code
from leftfirst.running import run, steady_run
from leftfirst.steady import pruned
from leftfirst.texts import read
from tests.checks import kinds
from tests.samples import A, B, ends_of, flat, free_tree, invalid_memories, long_memory, nots, random_conditions
from tests.samples import small_conditions, told, told_steadily, tree_of

STRENGTHS = ["free", "steady", "outcome", "truth"]
FUNCTIONS = [strongest, difference, steady_difference, truth_difference, memory_difference]

# For each strength, pairs of conditions that are equal in it, and in none before it.
EQUAL = {
    "free": [("a", "a"), ("a", "not not a"), ("not (a and b)", "not a or not b"),
             ("a and (b and c)", "(a and b) and c"),
             ("(a or b) and c", "c if a else b and c"), ("b if not a else c", "c if a else b"), ("yes", "not not yes")],
    "steady": [("a and (b or not a)", "a and b"), ("a", "a and a"), ("a or b", "b if not a else a"), ("a", "a or a"),
               ("b if a else c", "a and b or not a and c"), ("a and not a", "a and not a and b")],
    "outcome": [("b if a else not b", "a if b else not a"), ("(a or not a) and b", "b and (a or not a) or a and not a"),
                ("(a or not a) and (b or not b)", "(b or not b) and (a or not a)"),
                ("c and a if b else c or a", "not b or a if c else not b and a")],
    "truth": [("a and b", "b and a"), ("a or not a", "b or not b"), ("a", "a or b and not b"), ("a", "a if b else a")],
    "none": [("a", "b"), ("a", "not a"), ("a and b", "a or b"), ("a", "a and b"), ("b if a else c", "c if a else b"),
             ("yes", "no"), ("a or not a", "a and not a"), ("a and b and c", "a and b and not c")],
}

# The first two have a pruned code with 61 rows or more, the third one an outcome code with 61 rows.
LARGE = [
    read("((not g and (not e and not g) and f if a else not f) if (not not d and c) and (d and c and g and (c or f))"
         " or (not not b or b or f or c) else not (a and h)) or not ((not e and b if d else c) if not h else"
         " not e and not b and g) or a"),
    read("(c or b or not e and not f or d) and (not ((h and (not not (g or d) and not g)) and not h if"
         " (d or not not (f and g)) or not e else not h) and (f or a and b)) and (g if not e or not h else"
         " not not ((e and not a) and a))"),
    read("((a if a else not not (not ((a or g) or h) or c)) if (a if (d if f else d) else h) or (c or b) else"
         " c if a else g) and not (((e or h) and g) and not (f and h) and b and (h and d))"),
]


def pairs():
    """All pairs of some conditions, among them equal ones and others in each strength."""
    conditions = [*small_conditions()[:2400:151], *random_conditions(20, 6, "ab"), *random_conditions(12, 7, "abc")]
    conditions += [read(text) for strength in ("steady", "outcome",
                                               "truth") for pair in EQUAL[strength] for text in pair]
    return itertools.product(conditions, repeat=2)


def both_names(one, other):
    """The ascending tuple of the names of both."""
    return tuple(sorted({*names(one), *names(other)}))


@functools.cache
def seen_of(condition, both):
    """What is seen of a condition in each strength, by all answers and by all assignments of these names."""
    return [free_tree(condition), tree_of(condition), ends_of(condition, both), ends_of(condition, both, ("yes", "no"))]


def strength_of(one, other):
    """The strongest strength in which the conditions are equal."""
    both = both_names(one, other)
    for strength, seen, other_seen in zip(STRENGTHS, seen_of(one, both), seen_of(other, both)):
        if seen == other_seen:
            return strength
    return "none"


class Examples(unittest.TestCase):
    def test_examples(self):
        one, two, three = read("a and (b or not a)"), read("a and b"), read("b and a")
        self.assertEqual([strongest(one, two), strongest(two, three), strongest(one, one)], ["steady", "truth", "free"])
        self.assertEqual([difference(one, two), difference(two, three)], [["yes", "no"], []])


class Equal(unittest.TestCase):
    def check(self, one, other, strength):
        """Check that this is the strongest strength in which the conditions are equal."""
        self.assertEqual(strongest(one, other), strength, (one, other))
        at = [*STRENGTHS, "none"].index(strength)
        for k, weaker in enumerate(STRENGTHS):
            self.assertIs(equal(one, other, weaker), k >= at, (one, other, weaker))

    def test_pairs_for_each_strength(self):
        for strength, found in EQUAL.items():
            for one, other in found:
                self.assertEqual(strength_of(read(one), read(other)), strength, (one, other))
                self.check(read(one), read(other), strength)
                self.check(read(other), read(one), strength)

    def test_all_pairs_of_some_conditions(self):
        found = []
        for one, other in pairs():
            strength = strength_of(one, other)
            self.check(one, other, strength)
            found.append(strength)
        for strength in [*STRENGTHS, "none"]:
            self.assertGreater(found.count(strength), 10, strength)

    def test_larger_conditions(self):
        conditions = random_conditions(30, 16, "abcd")
        for one, other in zip(conditions, conditions[1:]):
            self.check(one, other, strength_of(one, other))

    def test_as_the_codes_tell(self):
        for one, other in itertools.islice(pairs(), 0, None, 5):
            self.assertEqual(equal(one, other, "free"), code(one) == code(other))
            self.assertEqual(equal(one, other, "steady"), pruned(one) == pruned(other))
            self.assertEqual(equal(one, other, "outcome"), outcome_code(one) == outcome_code(other))

    def test_where_the_pruned_code_or_the_outcome_code_is_too_large(self):
        for condition in LARGE[:2]:
            self.assertRaises(TooLarge, pruned, condition)
        self.assertRaises(TooLarge, outcome_code, LARGE[2])
        for condition in LARGE:
            self.check(condition, condition, "free")
            self.check(condition, nots(2, condition), "free")
            self.check(condition, ("not", condition), "none")
            self.check(condition, ("and", condition, A), strength_of(condition, ("and", condition, A)))
            self.check(condition, ("and", condition, condition), "steady")
            self.check(("or", condition, condition), condition, "steady")
            one, other = ("and", condition, read("a or not a")), ("and", read("a or not a"), condition)
            self.check(one, other, strength_of(one, other))
        self.check(LARGE[0], LARGE[1], "none")

    def test_outcome_equal_where_the_pruned_code_is_too_large(self):
        ask = read("(a or not a) and (b or not b)")
        other = read("(b or not b) and (a or not a)")
        for condition in LARGE:
            if condition != LARGE[1]:
                self.check(("and", ask, condition), ("and", other, condition), "outcome")
                self.check(("and", ask, condition), ("and", other, ("not", condition)), "none")

    def test_names_that_are_results_or_kinds(self):
        for one, other in itertools.product(["yes", "no", "test", "fails", "yes and no", "no or yes", "not yes"],
                                            repeat=2):
            self.check(read(one), read(other), strength_of(read(one), read(other)))


class Difference(unittest.TestCase):
    def check(self, one, other):
        """Check the difference by a search through all answers, and return it."""
        found = difference(one, other)
        shortest = self.shortest(one, other)
        if found is None:
            self.assertIsNone(shortest)
        else:
            self.assertIs(type(found), list)
            self.assertLessEqual({*found}, {"yes", "no"})
            self.assertEqual(len(found), len(shortest), (one, other))
            self.assertNotEqual(told(one, found), told(other, found))
            self.assertNotEqual(run(one, found), run(other, found))
        return found

    def shortest(self, one, other):
        """The shortest answers that make a difference, or None."""
        level = [()]
        while level:
            later = []
            for answers in level:
                told_one, told_other = told(one, answers), told(other, answers)
                if told_one != told_other:
                    return answers
                if told_one[1] == "open":
                    later += [(*answers, "yes"), (*answers, "no")]
            level = later
        return None

    def test_pairs_for_each_strength(self):
        for strength, found in EQUAL.items():
            for one, other in found:
                self.assertEqual(self.check(read(one), read(other)) is None, strength == "free")
                self.assertEqual(self.check(read(other), read(one)) is None, strength == "free")

    def test_all_pairs_of_some_conditions(self):
        for one, other in pairs():
            self.check(one, other)

    def test_random_pairs_that_are_almost_equal(self):
        for condition in random_conditions(60, 12, "ab", seed=3):
            for other in [("and", condition, A), ("or", B, condition), ("not", condition),
                          ("and", condition, condition)]:
                self.assertIsNotNone(self.check(condition, other))

    def test_examples_of_each_length(self):
        self.assertEqual(difference(A, B), [])
        self.assertEqual(len(difference(A, ("not", A))), 1)
        self.assertEqual(difference(read("yes and a"), read("yes or a"))[1:], [])
        self.assertEqual(difference(A, read("a and b")), ["yes"])
        self.assertEqual(difference(flat("and", "a" * 59), flat("and", "a" * 60)), ["yes"] * 59)
        self.assertEqual(difference(flat("or", "ab" * 30), flat("or", "ab" * 29 + "ac")), ["no"] * 59)
        self.assertEqual(len(difference(flat("or", "ab" * 30), ("or", *flat("or", "ab" * 29 + "a")[1:], ("not", B)))),
                         60)

    def test_the_shorter_one_of_two_differences(self):
        self.assertEqual(difference(read("a and b and c or d"), read("a and b and a or e")), ["no"])
        self.assertEqual(difference(read("a and b and c or d"), read("a and b and b or d and e")), ["yes", "yes"])
        self.assertEqual(difference(read("(a or b) and c"), read("(a or b and b) and d")), ["yes"])

    def test_the_list_belongs_to_the_caller(self):
        first = difference(read("a and b"), read("a and c"))
        first.append("no")
        self.assertEqual(difference(read("a and b"), read("a and c")), ["yes"])

    def test_results_and_names_are_not_mixed_up(self):
        for one, other in [("a and yes", "a"), ("a and no", "a"), ("a or yes", "a"), ("no or a", "not a or no")]:
            self.assertIsNotNone(self.check(read(one), read(other)))


class SteadyDifferences(unittest.TestCase):
    def check(self, function, told_of, one, other):
        """Check the assignment that shows a difference, or that there is none, and return it."""
        found = function(one, other)
        both = both_names(one, other)
        if found is None:
            for answers in itertools.product(["yes", "no"], repeat=len(both)):
                self.assertEqual(told_of(one, dict(zip(both, answers))), told_of(other, dict(zip(both, answers))))
        else:
            self.assertEqual(kinds(found), {tuple, str})
            self.assertEqual(tuple([name for name, _ in found]), both)
            self.assertLessEqual({answer for _, answer in found}, {"yes", "no"})
            self.assertNotEqual(told_of(one, dict(found)), told_of(other, dict(found)))
        return found

    def check_both(self, one, other):
        steady = self.check(steady_difference, told_steadily, one, other)
        truth = self.check(truth_difference, lambda condition, answers: told_steadily(condition, answers)[1], one,
                           other)
        if steady is not None:
            self.assertNotEqual(steady_run(one, steady), steady_run(other, steady))
        if truth is not None:
            self.assertNotEqual(steady_run(one, truth)[1], steady_run(other, truth)[1])
            self.assertIsNotNone(steady)
        return steady, truth

    def test_pairs_for_each_strength(self):
        for strength, found in EQUAL.items():
            for one, other in found:
                for steady, truth in [self.check_both(read(one), read(other)), self.check_both(read(other), read(one))]:
                    self.assertEqual(steady is None, strength in ("free", "steady"))
                    self.assertEqual(truth is None, strength != "none")

    def test_all_pairs_of_some_conditions(self):
        for one, other in pairs():
            self.check_both(one, other)

    def test_larger_conditions(self):
        conditions = random_conditions(30, 60, "abcdefgh", seed=7)
        for one, other in zip(conditions, conditions[1:]):
            self.check_both(one, other)

    def test_all_names_of_both_in_ascending_order(self):
        steady, truth = self.check_both(read("c"), read("b and a"))
        self.assertEqual([[name for name, _ in found] for found in (steady, truth)], [["a", "b", "c"]] * 2)
        steady, truth = self.check_both(flat("and", "hgfe"), flat("or", "badc"))
        self.assertEqual([[name for name, _ in found] for found in (steady, truth)], [[*"abcdefgh"]] * 2)
        self.assertEqual([name for name, _ in steady_difference(read("b and a"), read("a and b or aa and b"))],
                         ["a", "aa", "b"])

    def test_a_difference_for_one_assignment_only(self):
        for ends in itertools.product(["yes", "no"], repeat=3):
            only = flat("and", "abc")[1:]
            only = [part if end == "yes" else ("not", part) for part, end in zip(only, ends)]
            expected = tuple(zip("abc", ends))
            steady, truth = self.check_both(("and", *only), ("and", A, ("not", A)) if ends[0] == "yes" else
                                            ("and", ("not", A), A))
            self.assertEqual(truth, expected)
            self.assertIsNotNone(steady)


class MemoryRun(unittest.TestCase):
    def test_no_pair(self):
        self.assertEqual(memory_run(A, []), (("a",), "open"))
        self.assertEqual(memory_run(read("b and a"), []), (("b",), "open"))
        self.assertEqual(memory_run(("not", B), []), (("b",), "open"))

    def test_each_asking_is_answered_by_all_that_was_asked(self):
        condition = read("a and (b or not a)")
        memory = [(("a",), "yes"), (("a", "b"), "no"), (("a", "b", "a"), "no"), (("b",), "no"), (("a", "a"), "yes")]
        self.assertEqual(memory_run(condition, memory), (("a", "b", "a"), "yes"))
        self.assertEqual(memory_run(condition, memory[::-1]), (("a", "b", "a"), "yes"))
        memory[2] = (("a", "b", "a"), "yes")
        self.assertEqual(memory_run(condition, memory), (("a", "b", "a"), "no"))
        self.assertEqual(memory_run(condition, [(("a",), "no"), *memory[1:]]), (("a",), "no"))
        self.assertEqual(memory_run(condition, [memory[0], (("a", "b"), "yes")]), (("a", "b"), "yes"))

    def test_open_at_the_first_a_middle_and_the_last_asking(self):
        condition = flat("and", "abab")
        memory = [(tuple("abab"[:k]), "yes") for k in range(1, 5)]
        self.assertEqual(memory_run(condition, memory), (tuple("abab"), "yes"))
        for k in range(4):
            expected = (tuple("abab"[:k + 1]), "open")
            self.assertEqual(memory_run(condition, memory[:k] + memory[k + 1:]), expected)
            self.assertEqual(memory_run(condition, memory[:k]), expected)

    def test_pairs_that_are_not_reached(self):
        for pair in [(("a", "b"), "yes"), (("b",), "no"), (("z",) * 60, "yes"), (("b", "a"), "no"), (("a", "a"), "no")]:
            self.assertEqual(memory_run(A, [pair]), (("a",), "open"))
            self.assertEqual(memory_run(A, [pair, (("a",), "no")]), (("a",), "no"))
        self.assertEqual(memory_run(A, [(("a",), "yes"), *[(("b",) * k, "no") for k in range(1, 60)]]), (("a",), "yes"))

    def test_against_a_run_with_the_same_answers(self):
        for condition in [*small_conditions()[:2400:53], *random_conditions(60, 20, "abc")]:
            for answers in [["yes"] * 60, ["no"] * 60, ["yes", "no"] * 30, ["no", "no", "yes"] * 20]:
                asked, end = told(condition, answers)
                memory = [(asked[:k + 1], answers[k]) for k in range(len(asked))]
                self.assertEqual(memory_run(condition, memory), (asked, end))
                self.assertEqual(memory_run(condition, memory[:-1]), (asked, "open"))

    def test_sixty_askings(self):
        memory = [(("a",) * k, "yes") for k in range(1, 61)]
        self.assertEqual(memory_run(flat("and", "a" * 60), memory), (("a",) * 60, "yes"))
        self.assertEqual(memory_run(flat("and", "a" * 60), memory[:59]), (("a",) * 60, "open"))

    def test_two_hundred_pairs(self):
        self.assertEqual(memory_run(A, long_memory(200))[0], ("a",))
        self.assertEqual(len(long_memory(200)), 200)

    def test_what_is_no_memory(self):
        for value in invalid_memories():
            self.assertRaises(InvalidAnswers, memory_run, read("a and b"), value)


class MemoryDifference(unittest.TestCase):
    def check(self, one, other):
        """Check the memory, and return it."""
        found = memory_difference(one, other)
        if found is None:
            self.assertEqual(free_tree(one), free_tree(other))
        else:
            self.assertIs(type(found), list)
            self.assertEqual({type(part) for pair in found for part in (pair, pair[0], *pair[0])}, {tuple, str})
            ends = [self.told_end(one, dict(found)), self.told_end(other, dict(found))]
            self.assertEqual(sorted(ends), ["no", "yes"], (one, other))
            self.assertEqual([memory_run(one, found)[1], memory_run(other, found)[1]], ends)
        return found

    def told_end(self, condition, memory):
        """The end with this memory."""
        answers = []
        while True:
            asked, end = told(condition, answers)
            if end != "open":
                return end
            answers.append(memory[asked])

    def test_pairs_for_each_strength(self):
        for strength, found in EQUAL.items():
            for one, other in found:
                self.assertEqual(self.check(read(one), read(other)) is None, strength == "free")
                self.assertEqual(self.check(read(other), read(one)) is None, strength == "free")

    def test_all_pairs_of_some_conditions(self):
        for one, other in pairs():
            self.check(one, other)

    def test_larger_conditions(self):
        for letters in ("ab", "abcdefgh"):
            conditions = random_conditions(40, 60, letters, seed=12)
            for one, other in zip(conditions, conditions[1:]):
                if one != other:
                    self.assertIsNotNone(self.check(one, other))

    def test_conditions_that_part_late(self):
        for one, other in [(flat("and", "a" * 60), flat("and", "a" * 59)),
                           (flat("or", "ab" * 30), flat("or", "ab" * 29 + "ac")),
                           (flat("and", "a" * 60), ("not", flat("or", "b" * 60))),
                           (flat("or", "a" * 60), flat("and", "b" * 60)),
                           (flat("and", "ab" * 30), ("and", *flat("and", "ab" * 29 + "a")[1:], ("not", B))),
                           (("and", *flat("and", "a" * 30)[1:], flat("or", "b" * 30)), flat("and", "a" * 60))]:
            self.assertIsNotNone(self.check(one, other))
            self.assertIsNotNone(self.check(other, one))

    def test_the_list_belongs_to_the_caller(self):
        memory_difference(A, B).clear()
        self.assertEqual(len(memory_difference(A, B)), 2)


class TooMany(unittest.TestCase):
    def test_eight_names_together_and_one_more(self):
        eight = flat("or", "abcdefgh")
        for one, other in [(eight, eight), (eight, A), (flat("and", "abcd"), flat("or", "efgh"))]:
            for function in FUNCTIONS:
                function(one, other)
            for strength in STRENGTHS:
                self.assertIs(equal(one, other, strength), one == other)

    def test_more_than_eight(self):
        eight, ninth = flat("or", "abcdefgh"), ("test", "i")
        pairs_beyond = [(eight, ninth), (ninth, eight), (flat("and", "abcde"), flat("and", "efghi")),
                        (eight, flat("or", "stuvwxyz")),
                        (("and", eight, A), ("and", ninth, A))]
        for one, other in pairs_beyond:
            for function in FUNCTIONS:
                self.assertRaises(TooLarge, function, one, other)
            for strength in STRENGTHS:
                self.assertRaises(TooLarge, equal, one, other, strength)


class Place(unittest.TestCase):
    def test_functions_are_defined_in_the_file_that_lists_them(self):
        for name in ["equal", "strongest", "difference", "steady_difference", "truth_difference", "memory_run",
                     "memory_difference"]:
            self.assertEqual(getattr(equality, name).__module__, "leftfirst.equality")


if __name__ == "__main__":
    unittest.main()
