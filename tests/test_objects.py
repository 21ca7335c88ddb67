"""Points 21, 22 and 23: conditions as objects, and what asks the tests of conditions and counts."""

import itertools
import random
import unittest

from leftfirst import objects
from leftfirst.codes import code
from leftfirst.conditions import names, tests
from leftfirst.errors import InvalidAnswers, InvalidAssignment, InvalidCondition, InvalidName, InvalidText, Missing, TooLarge
from leftfirst.objects import Asker, Condition, SteadyAsker
from leftfirst.running import run, steady_run
from leftfirst.texts import read, write
from tests.samples import A, B, C, all_assignments, bounds, evaluation, flat, free_tree, invalid_answers, invalid_assignments
from tests.samples import invalid_conditions, invalid_names, nots, plain_values, random_conditions, small_conditions

PAIR = (("a", "yes"), ("b", "no"))
ALL = tuple([(name, "yes") for name in "abcdefgh"])


def needed(condition, answers):
    """The names that are asked, as often as needed, and the end, for the answers of a dict (KeyError: missing)."""
    going = evaluation(condition)
    asked = [next(going)]
    while True:
        try:
            asked.append(going.send(answers[asked[-1]]))
        except StopIteration as stop:
            return asked, stop.value


class Model:
    """What an Asker has to do, in as few words as possible."""

    def __init__(self, assignment, steady):
        self.answers = dict(assignment)
        self.steady = steady
        self.asked = []
        self.known = set()

    def ask(self, condition):
        asked, end = needed(condition, self.answers)
        for name in asked:
            if not self.steady or name not in self.known:
                self.asked.append(name)
                self.known.add(name)
        return end

    def change(self, name, answer):
        self.answers[name] = answer
        self.known.discard(name)


class Examples(unittest.TestCase):
    def test_examples(self):
        one = Condition.of_text("a and b")
        found = [(one & ~one).text, one(["yes", "no"]), len(one | one), "b" in one, one & one == one]
        self.assertEqual(found, ["(a and b) and not (a and b)", (("a", "b"), "no"), 4, True, False])
        plain, steady = Asker(PAIR), SteadyAsker(PAIR)
        ends = [asker.ask(read("a and (b or not a)")) for asker in (plain, steady)]
        found = [ends, plain.asked, steady.asked, steady.ask(read("a or b")), len(steady)]
        self.assertEqual(found, [["no", "no"], ["a", "b", "a"], ["a", "b"], "yes", 2])


class Conditions(unittest.TestCase):
    def test_the_constructor_and_the_properties(self):
        for condition in [*small_conditions()[::41], *random_conditions(60, 60, "abcdefgh"),
                          *[condition for condition, _ in bounds().values()]]:
            one = Condition(condition)
            self.assertIs(type(one), Condition)
            self.assertEqual([one.condition, one.text, one.code], [condition, write(condition), code(condition)])
            self.assertEqual(len(one), len(tests(condition)))
            for name in ("a", "b", "note", "z"):
                self.assertIs(name in one, name in names(condition))

    def test_of_text(self):
        for condition in small_conditions()[::41]:
            one = Condition.of_text(write(condition))
            self.assertIs(type(one), Condition)
            self.assertEqual(one.condition, condition)
        self.assertEqual(Condition.of_text(text="a or b").condition, ("or", A, B))

    def test_invalid_conditions_and_texts(self):
        for value in invalid_conditions():
            self.assertRaises(InvalidCondition, Condition, value)
            if value not in ("a", "test", "a and b"):
                self.assertRaises(InvalidText, Condition.of_text, value)
        self.assertRaises(InvalidCondition, Condition, Condition(A))
        self.assertRaises(InvalidText, Condition.of_text, "a and")

    def test_operators(self):
        conditions = [*small_conditions()[::1501], A, ("not", A), ("and", A, B), ("or", A, B)]
        for c, d in itertools.product(conditions, repeat=2):
            one, other = Condition(c), Condition(d)
            for made, expected in [(one & other, ("and", c, d)), (one | other, ("or", c, d)), (~one, ("not", c))]:
                self.assertIs(type(made), Condition)
                self.assertEqual(made.condition, expected)
            self.assertEqual([one.condition, other.condition], [c, d])

    def test_operators_are_not_flattened(self):
        one, other, third = Condition(A), Condition(B), Condition(C)
        self.assertEqual((one & other & third).text, "(a and b) and c")
        self.assertEqual((one | (other | third)).text, "a or (b or c)")
        self.assertEqual((~one & other | ~~third).text, "not a and b or not not c")

    def test_in_place(self):
        one = first = Condition(A)
        one &= Condition(B)
        one |= Condition(C)
        self.assertEqual([one.text, first.text], ["a and b or c", "a"])

    def test_operators_with_other_values(self):
        one = Condition(A)
        for value in [*plain_values(), A, ("and", A, B), "a", "b", ["yes"], Condition, object(), Asker(())]:
            self.assertRaises(InvalidCondition, lambda other: one & other, value)
            self.assertRaises(InvalidCondition, lambda other: one | other, value)

    def test_too_large(self):
        thirty, one_more = Condition(flat("and", "a" * 30)), Condition(flat("or", "a" * 31))
        self.assertEqual(len(thirty & thirty), 60)
        for make in [lambda: thirty & one_more, lambda: one_more | thirty, lambda: one_more & one_more]:
            self.assertRaises(TooLarge, make)
        eight, ninth = Condition(flat("or", "abcdefgh")), Condition(("test", "i"))
        self.assertEqual(len(eight | eight), 16)
        for make in [lambda: eight & ninth, lambda: ninth | eight]:
            self.assertRaises(TooLarge, make)
        deep = Condition(nots(79, A))
        for make in [lambda: ~deep, lambda: deep & ninth, lambda: ninth | deep]:
            self.assertRaises(TooLarge, make)
        self.assertEqual(len(~Condition(nots(78, A))), 1)
        many = Condition(("or", nots(70, A), nots(70, A), nots(60, A)))
        for make in [lambda: ~many, lambda: many & Condition(("not", A))]:
            self.assertRaises(TooLarge, make)
        self.assertEqual(len(many & Condition(A)), 4)

    def test_equal_if_and_only_if_they_are_free_equal(self):
        conditions = [*small_conditions()[:2400:67], *random_conditions(40, 4, "ab")]
        conditions += [read(text) for text in ["not (a and b)", "not a or not b", "c if a else b and c",
                                               "(a or b) and c"]]
        found = []
        for c, d in itertools.product(conditions, repeat=2):
            expected = free_tree(c) == free_tree(d)
            self.assertIs(Condition(c) == Condition(d), expected)
            self.assertIs(Condition(c) != Condition(d), not expected)
            found.append(expected)
        self.assertGreater(found.count(True), len(conditions) + 4)

    def test_equal_to_no_other_value(self):
        one = Condition.of_text("a and b")
        for value in [*plain_values(), ("and", A, B), "a and b", one.code, one.condition, ["a", "b"], object(),
                      Condition, Asker(()),
                      SteadyAsker(()), ("a", "b")]:
            self.assertIs(one == value, False)
            self.assertIs(value == one, False)
            self.assertIs(one != value, True)

    def test_not_equal_with_more_than_eight_names_together(self):
        eight, ninth = Condition(flat("or", "abcdefgh")), Condition(("test", "i"))
        self.assertIs(eight == ninth, False)
        self.assertIs(ninth == eight, False)
        self.assertIs(Condition(flat("or", "abcde")) == Condition(flat("or", "efghi")), False)
        self.assertIs(eight == Condition(flat("or", "abcdefgh")), True)
        self.assertIs(eight == Condition(("or", flat("or", "abcd"), flat("or", "efgh"))), True)

    def test_a_call(self):
        for condition in [*small_conditions()[::101], *random_conditions(20, 30, "abc")]:
            one = Condition(condition)
            for answers in [[], ["yes"], ["no"], ["fails"], ["yes", "fails"], ["no"] * 60, ["yes"] * 200,
                            ["no", "yes"] * 40]:
                given = list(answers)
                self.assertEqual(one(answers), run(condition, answers))
                self.assertEqual(one(answers=answers), run(condition, answers))
                self.assertEqual(answers, given)

    def test_a_call_with_invalid_answers(self):
        one = Condition.of_text("a and b")
        for value in invalid_answers():
            self.assertRaises(InvalidAnswers, one, value)

    def test_names_in_a_condition(self):
        one = Condition.of_text("a and yes or not note")
        for name in ("a", "yes", "note"):
            self.assertIs(name in one, True)
        for value in [*plain_values(), "b", "no", "not", "not a", "aa", ("a",), ["a"], A, one, "ayes"]:
            self.assertIs(value in one, False)

    def test_lengths(self):
        for text, number in [("a", 1), ("not a", 1), ("a and a", 2), ("b if a else b", 3), ("a or b and (c or a)", 4)]:
            self.assertEqual(len(Condition.of_text(text)), number)
        self.assertEqual(len(Condition(flat("and", "a" * 60))), 60)

    def test_by_name(self):
        self.assertEqual(Condition(condition=A).text, "a")


class Askers(unittest.TestCase):
    def check(self, asker, model):
        """Check all that can be seen of an Asker."""
        self.assertEqual(asker.asked, model.asked)
        self.assertEqual(len(asker), len(model.asked))
        self.assertEqual(asker.assignment, tuple(sorted(model.answers.items())))
        self.assertIs(type(asker.assignment), tuple)
        for name in ("a", "b", "c", "d", "z"):
            self.assertEqual(asker.times(name), model.asked.count(name))

    def both(self, assignment):
        """An Asker and a SteadyAsker with their models."""
        return [(Asker(assignment), Model(assignment, False)), (SteadyAsker(assignment), Model(assignment, True))]

    def step(self, source, pairs, conditions):
        """Do one thing with both; source is a random.Random."""
        chosen = source.random()
        if chosen < 0.6:
            condition = source.choice(conditions)
            for asker, model in pairs:
                try:
                    expected = model.ask(condition)
                except KeyError as missing:
                    with self.assertRaises(Missing) as caught:
                        asker.ask(condition)
                    self.assertEqual(caught.exception.name, missing.args[0])
                else:
                    self.assertEqual(asker.ask(condition), expected)
        elif chosen < 0.9:
            name, answer = source.choice("abcd"), source.choice(["yes", "no"])
            for asker, model in pairs:
                self.assertIsNone(asker.change(name, answer))
                model.change(name, answer)
        else:
            self.assertIsNone(pairs[1][0].forget())
            pairs[1][1].known.clear()
        for asker, model in pairs:
            self.check(asker, model)

    def test_side_by_side_through_longer_rows(self):
        source = random.Random(1)
        conditions = [*random_conditions(60, 12, "abc"), *random_conditions(30, 6, "abcd"), *small_conditions()[:400:9]]
        conditions = [condition for condition in conditions if "note" not in names(condition)]
        for assignment in [(), PAIR, (("a", "no"), ("b", "no"), ("c", "yes")), ALL[:4], (("b", "yes"),)]:
            for _ in range(8):
                pairs = self.both(assignment)
                for _ in range(40):
                    self.step(source, pairs, conditions)

    def test_a_new_one_has_asked_nothing(self):
        for assignment in [(), PAIR, ALL]:
            for asker in (Asker(assignment), SteadyAsker(assignment)):
                self.assertEqual([asker.asked, len(asker), asker.times("a"), asker.assignment], [[], 0, 0, assignment])

    def test_the_end_is_that_of_a_steady_run(self):
        for condition in [*small_conditions()[::53], *random_conditions(40, 60, "abcd")]:
            for assignment in all_assignments(names(condition)):
                asked, end = steady_run(condition, assignment)
                plain, steady = Asker(assignment), SteadyAsker(assignment)
                self.assertEqual([plain.ask(condition), steady.ask(condition)], [end, end])
                self.assertEqual(tuple(steady.asked), asked)
                self.assertEqual(plain.asked, needed(condition, dict(assignment))[0])
                self.assertEqual(plain.ask(condition), end)
                self.assertEqual(plain.asked, needed(condition, dict(assignment))[0] * 2)
                self.assertEqual(steady.ask(condition), end)
                self.assertEqual(tuple(steady.asked), asked)

    def test_each_name_as_often_as_it_is_needed(self):
        for make, expected in [(Asker, ["a"] * 60), (SteadyAsker, ["a"])]:
            asker = make((("a", "yes"),))
            self.assertEqual(asker.ask(flat("and", "a" * 60)), "yes")
            self.assertEqual([asker.asked, asker.times("a"), len(asker)], [expected, len(expected), len(expected)])

    def test_missing_changes_nothing(self):
        for make in (Asker, SteadyAsker):
            asker = make(PAIR)
            asker.ask(read("b or b"))
            before = [asker.asked, len(asker), asker.times("a"), asker.times("b"), asker.assignment]
            for text, name in [("c", "c"), ("a and b or c", "c"), ("a and a and not b and (d or c)", "d"),
                               ("(not a or c) and b", "c")]:
                with self.assertRaises(Missing) as caught:
                    asker.ask(read(text))
                self.assertIs(type(caught.exception), Missing)
                self.assertEqual(caught.exception.name, name)
                after = [asker.asked, len(asker), asker.times("a"), asker.times("b"), asker.assignment]
                self.assertEqual(after, before)
            # Nothing of it is remembered: a is asked now, and b not again by the one that asks steadily.
            asker.ask(read("a and b"))
            self.assertEqual(asker.asked, ["b", "b", "a", "b"] if make is Asker else ["b", "a"])

    def test_a_name_that_is_not_asked_may_be_missing(self):
        for make in (Asker, SteadyAsker):
            self.assertEqual(make(PAIR).ask(read("b and c")), "no")
            self.assertEqual(make(PAIR).ask(read("c if b else a")), "yes")

    def test_change(self):
        for make in (Asker, SteadyAsker):
            asker = make(PAIR)
            self.assertEqual(asker.ask(read("a and b")), "no")
            self.assertIsNone(asker.change("b", "yes"))
            self.assertEqual(asker.assignment, (("a", "yes"), ("b", "yes")))
            self.assertEqual(asker.ask(read("a and b")), "yes")
            self.assertEqual(asker.asked, ["a", "b", "a", "b"] if make is Asker else ["a", "b", "b"])
            self.assertEqual(asker.times("b"), 2)

    def test_a_change_to_the_same_answer_forgets(self):
        asker = SteadyAsker(PAIR)
        asker.ask(read("a and b"))
        asker.change("a", "yes")
        asker.ask(read("a and b"))
        self.assertEqual(asker.asked, ["a", "b", "a"])
        asker.change("c", "no")
        asker.ask(read("a and b"))
        self.assertEqual(asker.asked, ["a", "b", "a"])

    def test_a_change_of_a_new_name(self):
        for make in (Asker, SteadyAsker):
            asker = make((("b", "no"),))
            asker.change("c", "yes")
            asker.change("a", "no")
            asker.change("aa", "yes")
            self.assertEqual(asker.assignment, (("a", "no"), ("aa", "yes"), ("b", "no"), ("c", "yes")))
            self.assertEqual(asker.ask(read("a or aa")), "yes")
            self.assertEqual(asker.asked, ["a", "aa"])

    def test_eight_names_and_one_more(self):
        for make in (Asker, SteadyAsker):
            asker = make(ALL[:7])
            asker.change("h", "yes")
            self.assertEqual(asker.assignment, ALL)
            asker.ask(read("a and b"))
            for name in ("i", "aa", "z"):
                for answer in ("yes", "no"):
                    self.assertRaises(TooLarge, asker.change, name, answer)
            self.assertEqual([asker.assignment, asker.asked, len(asker)], [ALL, ["a", "b"], 2])
            asker.ask(read("a and b"))
            self.assertEqual(asker.asked, ["a", "b", "a", "b"] if make is Asker else ["a", "b"])
            asker.change("h", "no")
            self.assertEqual(asker.assignment, (*ALL[:7], ("h", "no")))

    def test_errors_of_change_change_nothing(self):
        for make in (Asker, SteadyAsker):
            asker = make(PAIR)
            asker.ask(read("a and b"))
            for name, answer, error in [("a", "fails", InvalidAnswers), ("a", None, InvalidAnswers),
                                        ("A", "yes", InvalidName)]:
                self.assertRaises(error, asker.change, name, answer)
            self.assertEqual([asker.assignment, asker.asked], [PAIR, ["a", "b"]])
            asker.ask(read("a and b"))
            self.assertEqual(asker.asked, ["a", "b", "a", "b"] if make is Asker else ["a", "b"])

    def test_forget(self):
        asker = SteadyAsker(PAIR)
        asker.ask(read("a and b"))
        self.assertIsNone(asker.forget())
        self.assertEqual([asker.asked, len(asker), asker.times("a"), asker.assignment], [["a", "b"], 2, 1, PAIR])
        asker.ask(read("a and b"))
        self.assertEqual(asker.asked, ["a", "b", "a", "b"])
        asker.ask(read("b or a"))
        self.assertEqual(asker.asked, ["a", "b", "a", "b"])
        asker.forget()
        asker.forget()
        asker.ask(read("b or a"))
        self.assertEqual(asker.asked, ["a", "b", "a", "b", "b", "a"])
        self.assertIs(isinstance(asker, Asker), True)

    def test_what_is_returned_is_new_or_cannot_be_changed(self):
        for make in (Asker, SteadyAsker):
            asker = make(PAIR)
            asker.ask(read("a and b"))
            asker.asked.append("c")
            asker.asked.clear()
            self.assertEqual(asker.asked, ["a", "b"])
            self.assertIsNot(asker.asked, asker.asked)
            first = asker.asked
            asker.ask(read("not a"))
            self.assertEqual(first, ["a", "b"])
            before = asker.assignment
            asker.change("b", "yes")
            self.assertEqual(before, PAIR)

    def test_two_askers_are_apart(self):
        one, other = SteadyAsker(PAIR), SteadyAsker(PAIR)
        one.ask(A)
        one.change("b", "yes")
        self.assertEqual([other.asked, other.assignment], [[], PAIR])
        other.ask(A)
        self.assertEqual(other.asked, ["a"])

    def test_times(self):
        for make in (Asker, SteadyAsker):
            asker = make(PAIR)
            asker.ask(read("a and (b or a) and a"))
            self.assertEqual([asker.times(name) for name in ("a", "b", "c")], [3, 1, 0] if make is Asker else [1, 1, 0])
            for value in invalid_names():
                self.assertRaises(InvalidName, asker.times, value)

    def test_invalid_arguments(self):
        for make in (Asker, SteadyAsker):
            for value in [*invalid_assignments(), (("a", "fails"),)]:
                self.assertRaises(InvalidAssignment, make, value)
            asker = make(PAIR)
            for value in [*invalid_conditions(), Condition(A)]:
                self.assertRaises(InvalidCondition, asker.ask, value)
            for value in invalid_names():
                self.assertRaises(InvalidName, asker.change, value, "yes")
                self.assertRaises(InvalidName, asker.change, value, None)
            for value in [*plain_values(), "fails", "Yes", "no ", ["yes"], ("no",), "a"]:
                self.assertRaises(InvalidAnswers, asker.change, "a", value)
                self.assertRaises(InvalidAnswers, asker.change, "c", value)
            self.assertEqual([asker.asked, asker.assignment], [[], PAIR])

    def test_the_answer_is_checked_before_the_names_are_counted(self):
        for make in (Asker, SteadyAsker):
            self.assertRaises(InvalidAnswers, make(ALL).change, "i", "fails")
            self.assertRaises(TooLarge, make(ALL).change, "i", "no")

    def test_by_name(self):
        for make in (Asker, SteadyAsker):
            asker = make(assignment=PAIR)
            self.assertEqual(asker.ask(condition=read("a and b")), "no")
            self.assertEqual(asker.times(name="a"), 1)
            asker.change(answer="yes", name="b")
            self.assertEqual(asker.assignment, (("a", "yes"), ("b", "yes")))
            asker.change("b", answer="no")
            self.assertEqual(asker.assignment, PAIR)
            self.assertRaises(InvalidName, asker.change, answer=None, name=None)
            self.assertRaises(InvalidAnswers, asker.change, answer=None, name="a")


class Place(unittest.TestCase):
    def test_each_class_defines_what_is_listed_for_it(self):
        for name, members in [("Condition", ["__init__", "of_text", "__and__", "__or__", "__invert__", "__call__",
                                             "__eq__",
                                             "__len__", "__contains__", "condition", "text", "code"]),
                              ("Asker", ["__init__", "ask", "asked", "times", "__len__", "change", "assignment"]),
                              ("SteadyAsker", ["__init__", "forget"])]:
            found = getattr(objects, name)
            self.assertEqual(found.__module__, "leftfirst.objects")
            for member in members:
                self.assertIn(member, vars(found))
        self.assertEqual(SteadyAsker.__bases__, (Asker,))


if __name__ == "__main__":
    unittest.main()
