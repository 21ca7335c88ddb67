"""The whole document: all of its examples, point by point, and every name of its interface."""

import doctest
import importlib
import inspect
import unittest

EXAMPLES = {
    10: """
>>> from leftfirst.texts import read, write
>>> condition = read("a and (b or not a) and c")
>>> [condition, write(("not", condition)), write(("if", ("test", "c"), ("test", "a"), ("if", ("test", "b"), ("test", "a"), condition)))]
[('and', ('test', 'a'), ('or', ('test', 'b'), ('not', ('test', 'a'))), ('test', 'c')), 'not (a and (b or not a) and c)', 'a if c else a if b else a and (b or not a) and c']
""",
    11: """
>>> from leftfirst.running import run, steady_run
>>> from leftfirst.texts import read
>>> condition = read("a and (b or not a)")
>>> [run(condition, ["yes", "no", "yes"]), run(condition, ["yes", "no", "no", "no"]), run(condition, ["yes"]), run(condition, ["fails"])]
[(('a', 'b', 'a'), 'no'), (('a', 'b', 'a'), 'yes'), (('a', 'b'), 'open'), (('a',), 'failed')]
>>> [steady_run(condition, (("a", "yes"), ("b", "no"))), steady_run(condition, (("a", "no"),))]
[(('a', 'b'), 'no'), (('a',), 'no')]
""",
    12: """
>>> from leftfirst.codes import code, joined
>>> from leftfirst.texts import read
>>> [code(read("a and (b or not a)")), code(read("b if a else b"))]
[(('a', 1, 'no'), ('b', 'yes', 2), ('a', 'no', 'yes')), (('a', 1, 1), ('b', 'yes', 'no'))]
""",
    13: """
>>> from leftfirst.equality import difference, strongest
>>> from leftfirst.texts import read
>>> one, two, three = read("a and (b or not a)"), read("a and b"), read("b and a")
>>> [strongest(one, two), strongest(two, three), strongest(one, one), difference(one, two), difference(two, three)]
['steady', 'truth', 'free', ['yes', 'no'], []]
""",
    15: """
>>> from leftfirst.forms import basic, factors, is_step, normal, root
>>> from leftfirst.texts import read, write
>>> [write(normal(read("not (a and not (b and c))"))), write(basic(read("(a or b) and c"))), [write(one) for one in factors(read("a and (b and c) and (a or b)"), "and")]]
['not a or b and c', 'c if a else b and c', ['a', 'b', 'c', 'a or b']]
>>> [(write(one), number) for one, number in [root(read("(a or b) and (a or b)"), "and"), root(read("a or b"), "and")]]
[('a or b', 2), ('a or b', 1)]
>>> is_step(read("a and (b or c or d) and e and f"), read("a and (e and f if b else (c or d) and e and f)"))
True
""",
    16: """
>>> from leftfirst.conditions import tests
>>> from leftfirst.shapes import parts, plain, shaped
>>> from leftfirst.texts import write
>>> one = (("a", 1, 2), ("b", "yes", 2), ("c", "yes", "no"))
>>> two = (("a", 1, 2), ("b", "yes", "no"), ("c", "yes", "no"))
>>> three = (("a", 1, 4), ("b", 2, 3), ("d", "yes", "no"), ("e", "yes", "no"), ("c", 2, 5), ("f", "no", "yes"))
>>> [write(plain(one)), plain(two), len(tests(shaped(two))), shaped(three), parts(three)]
['a and b or c', None, 3, None, 6]
""",
    17: """
>>> from leftfirst.machines import code_of, instructions, run_machine
>>> both = (("jump", "a", "no", "no"), ("jump", "b", "yes", "yes"), ("goto", "no"))
>>> [code_of(both), instructions(code_of(both)), run_machine(both, ["yes", "no"])]
[(('a', 1, 'no'), ('b', 'yes', 'no')), 3, (('a', 'b'), 'no')]
>>> [instructions((("a", 1, 2), ("b", "yes", "no"), ("c", "yes", "no"))), instructions((("a", 1, 3), ("b", 2, "no"), ("d", "yes", "no"), ("c", 2, "yes")))]
[5, 6]
""",
    18: """
>>> from leftfirst.steady import pruned, steady_count
>>> from leftfirst.texts import read
>>> [pruned(read("a and (b or not a)")), pruned(read("a and not a")), steady_count(1), steady_count(2), steady_count(3)]
[(('a', 1, 'no'), ('b', 'yes', 'no')), (('a', 'no', 'no'),), 4, 72, 16428]
""",
    19: """
>>> from leftfirst.truth import askings, fewest_askings, table
>>> from leftfirst.texts import read
>>> condition = read("a and b or not a and b")
>>> [table(read("a and not b"), ("a", "b")), askings(condition), fewest_askings(condition)]
[['no', 'no', 'yes', 'no'], 2, 1]
""",
    20: """
>>> from leftfirst.counting import count, normals, ways
>>> from leftfirst.texts import write
>>> [count(1, 1), count(3, 2), count(5, 8), [write(one) for one in normals(1, ("a", "b"))], [ways(n, 1) for n in [0, 1, 2]]]
[2, 384, 94371840, ['a', 'b', 'not a', 'not b'], [0, 2, 14]]
""",
    23: """
>>> from leftfirst.objects import Asker, Condition, SteadyAsker
>>> from leftfirst.texts import read
>>> one = Condition.of_text("a and b")
>>> [(one & ~one).text, one(["yes", "no"]), len(one | one), "b" in one, one & one == one]
['(a and b) and not (a and b)', (('a', 'b'), 'no'), 4, True, False]
>>> plain, steady = Asker((("a", "yes"), ("b", "no"))), SteadyAsker((("a", "yes"), ("b", "no")))
>>> ends = [asker.ask(read("a and (b or not a)")) for asker in (plain, steady)]
>>> [ends, plain.asked, steady.asked, steady.ask(read("a or b")), len(steady)]
[['no', 'no'], ['a', 'b', 'a'], ['a', 'b'], 'yes', 2]
""",
    24: """
>>> from leftfirst.outcome import always_asked, outcome, outcome_code, outcome_count
>>> from leftfirst.equality import strongest
>>> from leftfirst.texts import read
>>> one, two = read("b if a else not b"), read("a if b else not a")
>>> [strongest(one, two), strongest(read("a and b"), read("b and a")), always_asked(read("a and b")), always_asked(one)]
['outcome', 'truth', ('a',), ('a', 'b')]
>>> [outcome(read("a and b"), (("a", "fails"), ("b", "no"))), outcome(read("b and a"), (("a", "fails"), ("b", "no")))]
['failed', 'no']
>>> [outcome_code(two), [outcome_count(n) for n in [0, 1, 2, 3]]]
[(('a', 1, 2), ('b', 'yes', 'no'), ('b', 'no', 'yes')), [0, 4, 56, 6460]]
""",
}

FUNCTIONS = {
    "conditions": ["is_condition(value)", "tests(condition)", "names(condition)", "replaced(condition, name, other)",
                   "dual(condition)"],
    "texts": ["write(condition)", "read(text)"],
    "running": ["run(condition, answers)", "steady_run(condition, assignment)"],
    "codes": ["code(condition)", "is_code(value)", "run_code(code, answers)", "turned(code)",
              "joined(kind, code, other)"],
    "equality": ["equal(one, other, strength)", "strongest(one, other)", "difference(one, other)",
                 "steady_difference(one, other)", "truth_difference(one, other)", "memory_run(condition, memory)",
                 "memory_difference(one, other)"],
    "forms": ["normal(condition)", "factors(condition, kind)", "root(condition, kind)", "basic(condition)",
              "is_step(one, other)", "way(one, other)"],
    "shapes": ["parts(code)", "plain_parts(code)", "shaped(code)", "plain(code)", "factor_codes(code, kind)",
               "condition_of(code)"],
    "machines": ["is_machine(value)", "run_machine(machine, answers)", "machine(code)", "instructions(code)",
                 "code_of(machine)"],
    "steady": ["pruned(condition)", "is_steady(code)", "unpruned(code)", "steady_count(number)"],
    "truth": ["table(condition, names)", "implies(one, other)", "askings(condition)", "fewest_askings(condition)",
              "cheapest(condition)"],
    "counting": ["count(number, size)", "normals(number, names)", "ways(number, size)"],
    "outcome": ["outcome(condition, answered)", "always_asked(condition)", "outcome_code(condition)",
                "outcome_difference(one, other)", "outcome_count(number)"],
}

METHODS = {
    "Condition": ["__init__(self, condition)", "of_text(text)", "__and__(self, other)", "__or__(self, other)",
                  "__invert__(self)", "__call__(self, answers)", "__eq__(self, other)", "__len__(self)",
                  "__contains__(self, name)"],
    "Asker": ["__init__(self, assignment)", "ask(self, condition)", "times(self, name)", "__len__(self)",
              "change(self, name, answer)"],
    "SteadyAsker": ["__init__(self, assignment)", "forget(self)"],
}
PROPERTIES = {"Condition": ["condition", "text", "code"], "Asker": ["asked", "assignment"], "SteadyAsker": []}

WITHOUT_FIELDS = ["InvalidCondition", "InvalidName", "InvalidNames", "InvalidAnswers", "InvalidAssignment",
                  "InvalidStrength", "InvalidCode", "InvalidKind", "InvalidMachine", "InvalidNumber", "InvalidText",
                  "TooLarge", "HasIf"]


def module(name):
    """The file of this name."""
    return importlib.import_module(f"leftfirst.{name}")


class Examples(unittest.TestCase):
    def test_each_example_prints_what_stands_there(self):
        for point, text in EXAMPLES.items():
            with self.subTest(point):
                examples = doctest.DocTestParser().get_doctest(text, {}, f"point {point}", "DOC.md", 0)
                outcome = doctest.DocTestRunner().run(examples)
                self.assertEqual(outcome.failed, 0)
                self.assertGreater(outcome.attempted, 2)


class Interface(unittest.TestCase):
    def check(self, found, told):
        """Check that a function or a method has the parameters that are listed, without a default value."""
        parameters = inspect.signature(found).parameters.values()
        self.assertEqual(f"{found.__name__}({', '.join([one.name for one in parameters])})", told)
        for one in parameters:
            self.assertIs(one.kind, inspect.Parameter.POSITIONAL_OR_KEYWORD)
            self.assertIs(one.default, inspect.Parameter.empty)

    def test_every_function_is_defined_where_it_is_listed(self):
        for name, listed in FUNCTIONS.items():
            for told in listed:
                with self.subTest(name, function=told):
                    found = getattr(module(name), told.partition("(")[0])
                    self.assertTrue(inspect.isfunction(found))
                    self.assertEqual(found.__module__, f"leftfirst.{name}")
                    self.check(found, told)

    def test_every_method_is_defined_in_its_own_class(self):
        for name, listed in METHODS.items():
            found = getattr(module("objects"), name)
            self.assertEqual(found.__module__, "leftfirst.objects")
            for told in listed:
                with self.subTest(name, method=told):
                    self.assertIn(told.partition("(")[0], vars(found))
                    self.check(getattr(found, told.partition("(")[0]), told)
            for told in PROPERTIES[name]:
                self.assertIsInstance(vars(found)[told], property)

    def test_a_steady_asker_is_an_asker(self):
        objects = module("objects")
        self.assertEqual(objects.SteadyAsker.__bases__, (objects.Asker,))
        self.assertEqual([objects.Asker.__bases__, objects.Condition.__bases__], [(object,), (object,)])

    def test_every_error(self):
        errors = module("errors")
        self.assertEqual(errors.LeftFirstError.__bases__, (ValueError,))
        for name in [*WITHOUT_FIELDS, "Missing"]:
            found = getattr(errors, name)
            self.assertEqual(found.__bases__, (errors.LeftFirstError,))
            self.assertEqual(found.__module__, "leftfirst.errors")
        for name in [*WITHOUT_FIELDS, "LeftFirstError"]:
            getattr(errors, name)()
            self.assertEqual(str(getattr(errors, name)("why")), "why")
        value = ["a"]
        self.assertIs(errors.Missing(value).name, value)
        self.assertIs(errors.Missing(name=value).name, value)
        self.assertIsNone(errors.Missing().name)


if __name__ == "__main__":
    unittest.main()
