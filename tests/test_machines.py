"""Point 17: machines, their runs, the shortest machine of a code, and the code of a machine."""

import itertools
import random
import unittest

from leftfirst import machines
from leftfirst.codes import code, is_code, run_code
from leftfirst.conditions import tests
from leftfirst.errors import TooLarge
from leftfirst.machines import code_of, instructions, is_machine, machine, run_machine
from leftfirst.texts import read
from tests.checks import kinds
from tests.samples import A, all_codes, bounds, chain, code_of_tree, invalid_machines, random_code, random_conditions
from tests.samples import small_conditions, steady_trees, ways

BOTH = (("jump", "a", "no", "no"), ("jump", "b", "yes", "yes"), ("goto", "no"))


def told_by(steps, answers):
    """The names that a machine asks and the end, if the askings get these answers in their order."""
    asked = []
    at = 0
    while at not in ("yes", "no"):
        word, *rest = steps[at]
        if word == "goto":
            at = rest[0]
            continue
        name, answer, target = rest
        asked.append(name)
        if len(asked) > len(answers):
            return tuple(asked), "open"
        if answers[len(asked) - 1] == "fails":
            return tuple(asked), "failed"
        at = target if answers[len(asked) - 1] == answer else at + 1
    return tuple(asked), at


def next_ones(steps, at):
    """The numbers of the instructions to which an instruction leads."""
    found = [steps[at][-1]] if steps[at][0] == "goto" else [steps[at][-1], at + 1]
    return [target for target in found if isinstance(target, int)]


def leads_back(steps):
    """Whether an instruction can be reached from itself."""
    for start in range(len(steps)):
        reached = {start}
        waiting = [*next_ones(steps, start)]
        while waiting:
            at = waiting.pop()
            if at == start:
                return True
            if at not in reached:
                reached.add(at)
                waiting += next_ones(steps, at)
    return False


def random_steps(source, number, letters):
    """So many instructions with targets anywhere, the last one a goto; source is a random.Random."""
    targets = ["yes", "no", *range(number)]
    found = []
    for k in range(number):
        if k == number - 1 or source.random() < 0.3:
            found.append(("goto", source.choice(targets)))
        else:
            found.append(("jump", source.choice(letters), source.choice(["yes", "no"]), source.choice(targets)))
    return tuple(found)


def random_machines(many, number, letters, seed=1):
    """So many machines with at most so many instructions, always the same ones."""
    source = random.Random(seed)
    found = []
    while len(found) < many:
        steps = random_steps(source, source.randint(1, number), letters)
        if not leads_back(steps):
            found.append(steps)
    return found


def long_machine(number):
    """A machine with so many instructions, all of which may be reached."""
    return (*[("jump", "abcdefgh"[k % 8], "no", "no") for k in range(number - 1)], ("goto", "yes"))


def forward_machine(source, number):
    """A machine with so many instructions, all targets of which are behind them; source is a random.Random."""
    found = []
    for k in range(number - 1):
        target = source.choice(["yes", "no", *range(k + 1, min(number, k + 9))])
        jump = ("jump", source.choice("abcdefgh"), source.choice(["yes", "no"]), target)
        found.append(("goto", target) if source.random() < 0.2 else jump)
    return (*found, ("goto", "no"))


def greatest_number(rows):
    """The greatest number of rows that can be given different rows, each one that is one of its targets."""
    best = {frozenset(): 0}
    for _, *targets in rows:
        later = dict(best)
        for taken, number in best.items():
            for target in targets:
                if isinstance(target, int) and target not in taken:
                    key = taken | {target}
                    later[key] = max(later.get(key, 0), number + 1)
        best = later
    return max(best.values())


class Examples(unittest.TestCase):
    def test_examples(self):
        found = [code_of(BOTH), instructions(code_of(BOTH)), run_machine(BOTH, ["yes", "no"])]
        self.assertEqual(found, [(("a", 1, "no"), ("b", "yes", "no")), 3, (("a", "b"), "no")])
        found = [instructions((("a", 1, 2), ("b", "yes", "no"), ("c", "yes", "no"))),
                 instructions((("a", 1, 3), ("b", 2, "no"), ("d", "yes", "no"), ("c", 2, "yes")))]
        self.assertEqual(found, [5, 6])


class IsMachine(unittest.TestCase):
    def test_machines(self):
        for value in [BOTH, (("goto", "yes"),), (("goto", "no"),), (("goto", 1), ("goto", "no")),
                      (("jump", "a", "yes", 1), ("goto", "no")), (("jump", "a", "no", "no"), ("goto", "no")),
                      (("jump", "yes", "yes", "yes"), ("jump", "no", "no", 2), ("goto", "no")),
                      (("jump", "goto", "yes", 1), ("goto", "no")), (("jump", "jump", "yes", 1), ("goto", "no")),
                      (("goto", 2), ("goto", "yes"), ("goto", 1)),
                      (("jump", "a", "yes", 3), ("goto", "yes"), ("goto", 1), ("goto", 2))]:
            self.assertIs(is_machine(value), True, value)

    def test_what_is_no_machine(self):
        for value in invalid_machines():
            self.assertIs(is_machine(value), False, repr(value)[:200])

    def test_numbers_of_instructions(self):
        for number in range(1, 121):
            self.assertIs(is_machine(long_machine(number)), True)
        for number in (121, 122, 240, 399):
            self.assertIs(is_machine(long_machine(number)), False)
        self.assertIs(is_machine(()), False)
        self.assertIs(is_machine((*[("goto", k + 1) for k in range(119)], ("goto", "yes"))), True)
        self.assertIs(is_machine((*[("goto", k + 1) for k in range(120)], ("goto", "yes"))), False)

    def test_eight_names_and_one_more(self):
        for number in range(1, 11):
            steps = (*[("jump", name, "yes", "yes") for name in "abcdefghij"[:number]], ("goto", "no"))
            self.assertIs(is_machine(steps), number <= 8)
            # Those that are never reached count, too.
            self.assertIs(is_machine((("goto", "yes"), *steps)), number <= 8)
        self.assertIs(is_machine((*[("jump", name, "yes", "yes") for name in "abcdefgh" * 14], ("goto", "no"))), True)

    def test_the_last_instruction_is_a_goto(self):
        for target in ("yes", "no", 1):
            self.assertIs(is_machine((("goto", "yes"), ("jump", "a", "yes", target))), False)
            self.assertIs(is_machine((("jump", "a", "yes", "yes"),)), False)
            self.assertIs(is_machine((("jump", "a", "yes", target), ("goto", "no"))), True)

    def test_instructions_that_are_never_reached(self):
        for steps in [(("goto", "yes"), ("goto", "no")), (("goto", "yes"), ("jump", "a", "yes", "no"), ("goto", "no")),
                      (("goto", 2), ("jump", "a", "yes", 2), ("goto", "no")),
                      (("goto", "no"), *BOTH[:2], ("goto", "no"))]:
            self.assertIs(is_machine(steps), True)

    def test_rings(self):
        for steps in [(("goto", 0),), (("goto", 1), ("goto", 0)), (("goto", 1), ("goto", 2), ("goto", 0)),
                      (("jump", "a", "yes", 0), ("goto", "no")), (("jump", "a", "yes", "no"), ("goto", 0)),
                      (("jump", "a", "yes", "no"), ("jump", "b", "no", 0), ("goto", "yes")),
                      (("jump", "a", "yes", 2), ("goto", "no"), ("goto", 0)), (("goto", 1), ("goto", 1)),
                      (("goto", 1), ("jump", "a", "no", 1), ("goto", "yes")), (*BOTH[:2], ("goto", 1)),
                      (*long_machine(60)[:-1], ("goto", 0)), (*long_machine(120)[:-1], ("goto", 59))]:
            self.assertIs(is_machine(steps), False, steps)

    def test_rings_of_instructions_that_are_never_reached(self):
        for steps in [(("goto", "yes"), ("goto", 1)), (("goto", "yes"), ("goto", 2), ("goto", 1)),
                      (("goto", "yes"), ("jump", "a", "yes", 1), ("goto", "no")),
                      (("goto", 3), ("jump", "a", "yes", "no"), ("goto", 1), ("goto", "no")),
                      (("goto", "no"), ("goto", 2), ("goto", 3), ("goto", 1)),
                      (("goto", "no"), ("jump", "a", "no", 3), ("goto", "yes"), ("goto", 1))]:
            self.assertIs(is_machine(steps), False, steps)

    def test_random_instructions(self):
        source = random.Random(2)
        found = []
        for _ in range(6000):
            steps = random_steps(source, source.randint(1, 7), "ab")
            found.append(is_machine(steps))
            self.assertIs(found[-1], not leads_back(steps), steps)
        self.assertGreater(found.count(True), 500)
        self.assertGreater(found.count(False), 500)


class Run(unittest.TestCase):
    def check(self, steps, answers):
        """Check a run, and return what it returns."""
        found = run_machine(steps, answers)
        self.assertEqual(found, told_by(steps, answers))
        self.assertEqual([type(part) for part in (found, *found)], [tuple, tuple, str])
        return found

    def test_all_answers_of_random_machines(self):
        for steps in random_machines(300, 8, "ab"):
            for answers in ways(lambda given: told_by(steps, given)):
                self.check(steps, answers)
                self.check(steps, [*answers, "fails", "yes"])
                for k in range(len(answers)):
                    self.assertEqual(self.check(steps, answers[:k])[1], "open")

    def test_too_few_just_enough_and_more_answers(self):
        self.assertEqual([self.check(BOTH, ["yes"] * k) for k in range(4)],
                         [(("a",), "open"), (("a", "b"), "open"), (("a", "b"), "yes"), (("a", "b"), "yes")])
        self.assertEqual(self.check(BOTH, ["no"]), (("a",), "no"))

    def test_failing_at_the_first_and_the_last_asking(self):
        self.assertEqual(self.check(BOTH, ["fails"]), (("a",), "failed"))
        self.assertEqual(self.check(BOTH, ["yes", "fails"]), (("a", "b"), "failed"))
        self.assertEqual(self.check(BOTH, ["no", "fails"]), (("a",), "no"))

    def test_machines_that_ask_nothing(self):
        for steps, end in [((("goto", "yes"),), "yes"), ((("goto", 2), ("goto", "yes"), ("goto", "no")), "no"),
                           ((("goto", 1), *[("goto", "no")]), "no")]:
            for answers in ([], ["yes"], ["fails"] * 200):
                self.assertEqual(self.check(steps, answers), ((), end))

    def test_a_machine_that_begins_with_a_goto(self):
        steps = (("goto", 3), ("jump", "b", "yes", "no"), ("goto", "yes"), ("jump", "a", "no", 1), ("goto", "no"))
        self.assertEqual(self.check(steps, ["no", "yes"]), (("a", "b"), "no"))
        self.assertEqual(self.check(steps, ["yes"]), (("a",), "no"))
        self.assertEqual(self.check(steps, ["no"]), (("a", "b"), "open"))

    def test_more_than_sixty_askings(self):
        for given, end in [(200, "yes"), (119, "yes"), (118, "open")]:
            asked, found = self.check(long_machine(120), ["yes"] * given)
            self.assertEqual((len(asked), found), (119, end))

    def test_long_machines(self):
        source = random.Random(3)
        for number in (30, 60, 119, 120):
            for _ in range(20):
                steps = forward_machine(source, number)
                for _ in range(10):
                    self.check(steps, [source.choice(["yes", "no"]) for _ in range(200)])


class Machine(unittest.TestCase):
    def check(self, rows):
        """Check the machine of a code, and return it."""
        found = machine(rows)
        self.assertIs(is_machine(found), True)
        self.assertLessEqual(kinds(found), {tuple, str, int})
        self.assertEqual(len(found), instructions(rows))
        self.assertIs(type(instructions(rows)), int)
        self.assertEqual(code_of(found), rows)
        return found

    def small_codes(self):
        """Codes with few rows of every shape."""
        for names in ("a", "ab", "aa", "aba"):
            yield from all_codes(len(names), names)
        source = random.Random(4)
        for number in (4, 5, 6, 7):
            yield from [random_code(source, number) for _ in range(60)]

    def test_the_number_of_instructions(self):
        for rows in self.small_codes():
            self.assertEqual(instructions(rows), 2 * len(rows) - greatest_number(rows), rows)

    def test_larger_codes(self):
        source = random.Random(5)
        for number in (9, 12, 15):
            for _ in range(25):
                rows = random_code(source, number)
                self.assertEqual(instructions(rows), 2 * len(rows) - greatest_number(rows), rows)
                self.check(rows)
        for tree in steady_trees("abc")[2::401]:
            rows = code_of_tree(tree)
            self.assertEqual(instructions(rows), 2 * len(rows) - greatest_number(rows), rows)
            self.check(rows)

    def test_runs_as_the_code_does_for_all_answers(self):
        for rows in itertools.islice(self.small_codes(), 0, None, 3):
            found = self.check(rows)
            for answers in ways(lambda given: run_code(rows, given)):
                for k in range(len(answers) + 1):
                    self.assertEqual(told_by(found, answers[:k]), run_code(rows, answers[:k]))

    def test_no_machine_with_fewer_instructions(self):
        for names in ("a", "ab", "aa"):
            targets = ["yes", "no", 0, 1]
            steps = [("goto", target) for target in targets]
            steps += [("jump", *part) for part in itertools.product(sorted({*names}), ["yes", "no"], targets)]
            smaller = [chosen for number in (1, 2) for chosen in itertools.product(steps, repeat=number)]
            codes = {}
            for chosen in smaller:
                if is_machine(chosen) and code_of(chosen) is not None:
                    rows = code_of(chosen)
                    codes[rows] = min(codes.get(rows, 9), len(chosen))
            for rows in all_codes(len(names), names):
                self.assertEqual(instructions(rows), codes.get(rows, 3), rows)

    def test_codes_of_conditions_without_if(self):
        for condition in [*[one for one in small_conditions()[::7] if "'if'" not in repr(one)],
                          *random_conditions(100, 60, "abc", False)]:
            rows = code(condition)
            self.assertEqual(instructions(rows), len(rows) + 1)
            self.assertEqual(len(rows), len(tests(condition)))
            self.check(rows)

    def test_codes_of_conditions_with_if(self):
        for condition in [*random_conditions(150, 60, "abcdefgh"), *[condition for condition, _ in bounds().values()]]:
            self.check(code(condition))

    def test_rows_with_the_same_target_twice(self):
        for rows in [(("a", "yes", "yes"),), (("a", 1, 1), ("b", "no", "no")),
                     (("a", 1, 1), ("b", 2, 2), ("c", "yes", "no"))]:
            self.assertEqual(instructions(rows), len(rows) + 1)
            self.check(rows)

    def test_rows_that_have_to_give_way(self):
        # Row 0 has to be followed by row 3, so that row 1 can be followed by row 2, and so on.
        for rows, expected in [((("a", 1, 3), ("b", 2, "no"), ("d", "yes", "no"), ("c", 2, "yes")), 6),
                               ((("a", 1, 2), ("b", 2, "no"), ("c", "yes", "no")), 4),
                               ((("a", 1, 3), ("b", 2, 3), ("c", 3, "no"), ("d", "yes", "no")), 5),
                               (code(read("(b if a else c) and (e if d else f)")), 9)]:
            self.assertIs(is_code(rows), True)
            self.assertEqual(instructions(rows), expected)
            self.check(rows)

    def test_sixty_rows(self):
        self.assertEqual(instructions(chain(60)), 61)
        self.check(chain(60))
        source = random.Random(6)
        for _ in range(30):
            self.check(random_code(source, 60))
        twice = tuple([("a", k + 1, k + 1) for k in range(59)] + [("a", "yes", "yes")])
        self.assertEqual(instructions(twice), 61)
        self.check(twice)

    def test_the_only_shortest_machines(self):
        self.assertIn(machine(code(A)), [(("jump", "a", "yes", "yes"), ("goto", "no")),
                                         (("jump", "a", "no", "no"), ("goto", "yes"))])
        self.assertEqual(len(machine(code(read("b if a else c")))), 5)


class CodeOf(unittest.TestCase):
    def test_all_answers_of_random_machines(self):
        nothing = 0
        for steps in [*random_machines(600, 8, "ab", seed=7), *random_machines(200, 12, "abc", seed=8)]:
            rows = code_of(steps)
            if rows is None:
                self.assertEqual(told_by(steps, [])[0], ())
                nothing += 1
                continue
            self.assertIs(is_code(rows), True)
            self.assertLessEqual(kinds(rows), {tuple, str, int})
            for answers in ways(lambda given: told_by(steps, given)):
                for k in range(len(answers) + 1):
                    self.assertEqual(run_code(rows, answers[:k]), told_by(steps, answers[:k]))
        self.assertGreater(nothing, 50)

    def test_none_for_a_machine_that_asks_nothing(self):
        for steps in [(("goto", "yes"),), (("goto", "no"), *BOTH), (("goto", 1), ("goto", "no")),
                      (("goto", 3), *BOTH[:2], ("goto", "yes")), (("goto", "yes"), *long_machine(119))]:
            self.assertIsNone(code_of(steps))

    def test_equal_rows_become_one(self):
        steps = (("jump", "a", "no", 3), ("jump", "b", "yes", "yes"), ("goto", "no"), ("jump", "b", "no", 5),
                 ("goto", "yes"),
                 ("goto", 2))
        self.assertEqual(code_of(steps), (("a", 1, 1), ("b", "yes", "no")))
        steps = (("jump", "a", "yes", "yes"), ("jump", "a", "no", "no"), ("goto", "yes"))
        self.assertEqual(code_of(steps), (("a", "yes", 1), ("a", "yes", "no")))

    def test_the_numbering(self):
        steps = (("goto", 3), ("jump", "c", "yes", "yes"), ("goto", "no"), ("jump", "a", "yes", 1),
                 ("jump", "b", "yes", 1),
                 ("goto", "no"))
        self.assertEqual(code_of(steps), (("a", 1, 2), ("c", "yes", "no"), ("b", 1, "no")))
        steps = (("jump", "a", "no", 3), ("jump", "b", "no", "no"), ("goto", 4), ("goto", 4), ("jump", "c", "no", "no"),
                 ("goto", "yes"))
        self.assertEqual(code_of(steps), (("a", 1, 2), ("b", 2, "no"), ("c", "yes", "no")))

    def test_instructions_that_are_never_reached_fall_away(self):
        self.assertEqual(code_of((*BOTH, ("jump", "z", "yes", "yes"), ("goto", 1))), code_of(BOTH))
        self.assertEqual(code_of((("goto", 3), ("jump", "z", "yes", 3), ("goto", "no"), ("jump", "a", "yes", "yes"),
                                  ("goto", "no"))),
                         (("a", "yes", "no"),))

    def test_sixty_rows_and_one_more(self):
        self.assertEqual(code_of(long_machine(61)), chain(60))
        self.assertRaises(TooLarge, code_of, long_machine(62))
        self.assertRaises(TooLarge, code_of, long_machine(120))
        # As many rows as that, but equal ones among them.
        steps = (*[("jump", "a", "yes", 2 * k + 2 if k < 59 else "yes") if first else ("goto",
                                                                                       "no" if k == 59 else 2 * k + 2)
                   for k in range(60) for first in (True, False)],)
        self.assertEqual(len(steps), 120)
        self.assertEqual(len(code_of(steps)), 60)
        same = (("jump", "b", "yes", 60), *[("jump", "a", "no", "no") for _ in range(58)], ("goto", "yes"),
                *[("jump", "a", "no", "no") for _ in range(58)], ("goto", "yes"))
        self.assertEqual(len(same), 119)
        self.assertEqual(len(code_of(same)), 59)

    def test_too_large_only_for_what_is_reached(self):
        self.assertEqual(code_of((("jump", "a", "yes", "yes"), ("goto", "no"), *[(word, *rest) for word, *rest in
                                                                                moved(long_machine(118), 2)])),
                                                                                (("a", "yes", "no"),))


def moved(steps, by):
    """Instructions whose targets are that much greater."""
    return [(*step[:-1], step[-1] + by if isinstance(step[-1], int) else step[-1]) for step in steps]


class Place(unittest.TestCase):
    def test_functions_are_defined_in_the_file_that_lists_them(self):
        for name in ["is_machine", "run_machine", "machine", "instructions", "code_of"]:
            self.assertEqual(getattr(machines, name).__module__, "leftfirst.machines")


if __name__ == "__main__":
    unittest.main()
