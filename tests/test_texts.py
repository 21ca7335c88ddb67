"""Point 10: the texts of conditions."""

import ast
import itertools
import re
import unittest

from leftfirst import texts
from leftfirst.conditions import is_condition
from leftfirst.errors import InvalidText
from leftfirst.texts import read, write
from tests.samples import A, B, C, D, RESERVED
from tests.samples import bounds, flat, nots, plain_values, small_conditions, unchanged

PLACES = [
    (A, "a"),
    (("test", "elsewher"), "elsewher"),
    (("not", A), "not a"),
    (("not", ("not", A)), "not not a"),
    (("not", ("not", ("not", A))), "not not not a"),
    (("not", ("and", A, B)), "not (a and b)"),
    (("not", ("or", A, B)), "not (a or b)"),
    (("not", ("if", A, B, C)), "not (b if a else c)"),
    (("not", ("not", ("or", A, B))), "not not (a or b)"),
    (("and", A, B), "a and b"),
    (("and", A, B, C), "a and b and c"),
    (("and", A, ("and", B, C)), "a and (b and c)"),
    (("and", ("and", A, B), C), "(a and b) and c"),
    (("and", ("or", A, B), C), "(a or b) and c"),
    (("and", A, ("or", B, C), D), "a and (b or c) and d"),
    (("and", A, ("or", B, C)), "a and (b or c)"),
    (("and", ("if", A, B, C), D), "(b if a else c) and d"),
    (("and", D, ("if", A, B, C)), "d and (b if a else c)"),
    (("and", ("not", A), ("not", ("not", B)), ("not", C)), "not a and not not b and not c"),
    (("and", ("not", ("and", A, B)), C), "not (a and b) and c"),
    (("or", A, B), "a or b"),
    (("or", A, B, C, D), "a or b or c or d"),
    (("or", A, ("or", B, C)), "a or (b or c)"),
    (("or", ("or", A, B), C), "(a or b) or c"),
    (("or", ("and", A, B), ("and", C, D)), "a and b or c and d"),
    (("or", A, ("and", B, ("or", C, D))), "a or b and (c or d)"),
    (("or", ("if", A, B, C), D), "(b if a else c) or d"),
    (("or", D, ("if", A, B, C)), "d or (b if a else c)"),
    (("or", ("not", A), ("not", ("or", B, C))), "not a or not (b or c)"),
    (("if", A, B, C), "b if a else c"),
    (("if", ("not", A), ("not", B), ("not", C)), "not b if not a else not c"),
    (("if", ("and", A, B), ("and", B, C), ("and", C, D)), "b and c if a and b else c and d"),
    (("if", ("or", A, B), ("or", B, C), ("or", C, D)), "b or c if a or b else c or d"),
    (("if", ("if", A, B, C), A, B), "a if (b if a else c) else b"),
    (("if", A, ("if", A, B, C), B), "(b if a else c) if a else b"),
    (("if", A, B, ("if", C, D, A)), "b if a else d if c else a"),
    (("if", A, B, ("if", C, D, ("if", B, A, D))), "b if a else d if c else a if b else d"),
    (("if", ("if", A, B, C), ("if", B, C, A), ("if", C, A, B)), "(c if b else a) if (b if a else c) else a if c else b"),
    (("not", ("if", ("not", ("if", A, B, C)), D, A)), "not (d if not (b if a else c) else a)"),
]

# One text for each way to differ from a text of a condition.
INVALID = [
    "", " ", "  ", "\n", "\t", "()", "(", ")", "(a", "a)", ")a(", "(a)", "((a))", "( a)", "(a )", "a ", " a", "a\n",
    "\na", "a\t", "\ta", "a  and b", "a and  b", " a and b", "a and b ", "a\tand b", "a and\tb", "a\nand b", "a and\nb",
    "a andb", "aand b", "a and b\n", "not  a", "nota and", "not\ta", "not\na", "not(a)", "not (a)", "not (not a)",
    "not(a and b)", "not ( a and b)", "not (a and b )", "not (a and b", "not a and b)", "not ((a and b))", "(not a)",
    "(a and b)", "((a) and b)", "(a) and b", "a and (b)", "a (and b)", "(a and) b", "a and (not b)", "(not a) and b",
    "a or (b and c)", "(a and b) or c", "a or (not b)", "a and (b or c", "a and b or c)", "a and(b or c)", "(a or b)and c",
    "a and (b  or c)", "a and ((b or c))", "a and", "and a", "and", "a and and b", "a and or b", "a or or b", "a or", "or a",
    "a b", "a b and c", "a and b c", "a not b", "a not", "not", "not not", "not and a", "a and not", "a or not or b",
    "a if b", "a if b else", "if b else c", "a else b", "else", "if", "a if else b", "a else b if c", "a if b if c else d",
    "a if b else c else d", "(a if b else c)", "a if b else (c if d else a)", "a if b else (c)", "(a) if b else c",
    "a if (b) else c", "(a and b) if c else d", "a if (b or c) else d", "a if b else (c and d)", "a if b else (not c)",
    "a if b else c if d", "a if b  else c", "a if b else\nc", "a and b if c else d and", "not (a) if b else c",
    "a if not b else c d", "b if if a else c", "b if a else else c", "A", "a1", "a_b", "a.b", "a and B", "and1",
    "abcdefghi", "elsewhere", "a and elsewhere", "a & b", "a | b", "~a", "a, b", "a;", "a and b #", "a\\", "[a]",
    "{a}", "a == b", "not a == b", "True", "None", "1", "0", "a(b)", "a (b)", "a()", "lambda: a", "(a and b) (c or d)",
    "a\r", "a\r\nand b", "a\x0band b", "a and\x0cb", "AND", "a AND b", "a xor b", "test a", "('test', 'a')", *RESERVED,
]


def from_python(text):
    """The condition that Python reads in the text, or None."""
    try:
        return converted(ast.parse(text, mode="eval").body)
    except SyntaxError:
        return None


def converted(node):
    """The condition of a node, or None."""
    if isinstance(node, ast.Name):
        return ("test", node.id)
    if isinstance(node, ast.UnaryOp) and isinstance(node.op, ast.Not):
        kind, nodes = "not", [node.operand]
    elif isinstance(node, ast.BoolOp):
        kind, nodes = "and" if isinstance(node.op, ast.And) else "or", node.values
    elif isinstance(node, ast.IfExp):
        kind, nodes = "if", [node.test, node.body, node.orelse]
    else:
        return None
    members = [converted(inner) for inner in nodes]
    return None if None in members else (kind, *members)


def pairs(text):
    """The places of each pair of parentheses that belong together."""
    found, opened = [], []
    for at, sign in enumerate(text):
        if sign == "(":
            opened.append(at)
        elif sign == ")":
            found.append((opened.pop(), at))
    return found


class Writing(unittest.TestCase):
    def test_example(self):
        condition = read("a and (b or not a) and c")
        self.assertEqual(
            condition, ("and", ("test", "a"), ("or", ("test", "b"), ("not", ("test", "a"))), ("test", "c")))
        self.assertEqual(write(("not", condition)), "not (a and (b or not a) and c)")
        chosen = ("if", ("test", "c"), ("test", "a"), ("if", ("test", "b"), ("test", "a"), condition))
        self.assertEqual(write(chosen), "a if c else a if b else a and (b or not a) and c")

    def test_where_parentheses_stand_and_where_not(self):
        for condition, text in PLACES:
            with self.subTest(text):
                self.assertEqual(write(condition), text)

    def test_python_reads_the_same(self):
        for condition in small_conditions():
            self.assertEqual(from_python(write(condition)), condition)

    def test_no_pair_of_parentheses_can_be_left_out(self):
        for condition in small_conditions()[::5]:
            text = write(condition)
            for first, last in pairs(text):
                shorter = text[:first] + text[first + 1:last] + text[last + 1:]
                self.assertNotEqual(from_python(shorter), condition, text)

    def test_one_blank_between_words_and_none_inside_of_parentheses(self):
        for condition in small_conditions()[::5]:
            self.assertRegex(write(condition), re.compile(r"\(*[a-z]+\)*( \(*[a-z]+\)*)*\Z"))

    def test_at_the_bounds(self):
        for name, (condition, _) in bounds().items():
            with self.subTest(name):
                self.assertEqual(read(write(condition)), condition)
        self.assertEqual(write(nots(79, A)), "not " * 79 + "a")
        self.assertEqual(write(flat("and", "a" * 60)), " and ".join("a" * 60))


class Reading(unittest.TestCase):
    def test_what_is_written_gives_the_condition_back(self):
        for condition in small_conditions():
            self.assertEqual(read(write(condition)), condition)

    def test_texts_where_parentheses_stand_and_where_not(self):
        for condition, text in PLACES:
            with self.subTest(text):
                self.assertEqual(read(text), condition)

    def test_names_that_begin_or_end_like_words(self):
        for name in ["note", "nota", "iffy", "order", "andy", "ander", "elsewher", "ora", "band", "nor", "elif", "yes", "no",
                     "test", "is", "in", "for", "def", "lambda", "none", "pass", "abcdefgh", "z"]:
            with self.subTest(name):
                self.assertEqual(read(name), ("test", name))
                self.assertEqual(read(f"not {name} and a"), ("and", ("not", ("test", name)), A))
                self.assertEqual(
                    read(f"{name} if {name} else ({name} or a) and b"),
                    ("if", ("test", name), ("test", name), ("and", ("or", ("test", name), A), B)))

    def test_texts_that_are_none(self):
        for text in INVALID:
            with self.subTest(text):
                self.assertRaises(InvalidText, read, text)

    def test_values_that_are_no_strings(self):
        for value in [*plain_values(), ("a",), ["a"], ["a", "and", "b"], {"a": "b"}, A, ("and", A, B), 3]:
            with self.subTest(repr(value)[:60]):
                self.assertRaises(InvalidText, unchanged, self, read, value)

    def test_texts_of_conditions_beyond_a_bound(self):
        beyond = {
            "61 tests": (" and ".join("a" * 60), " and ".join("a" * 61)),
            "61 tests in ors": (" or ".join(["a and b"] * 30), " or ".join(["a and b"] * 30 + ["a"])),
            "61 tests in ifs": ("a if b else " * 29 + "a or b", "a if b else " * 30 + "a"),
            "201 nots": (
                "not " * 70 + "a and " + "not " * 70 + "a and " + "not " * 60 + "a",
                "not " * 70 + "a and " + "not " * 70 + "a and " + "not " * 61 + "a"),
            "9 names": (" or ".join("abcdefgha"), " or ".join("abcdefghi")),
            "81 deep": ("not " * 79 + "a", "not " * 80 + "a"),
            "81 deep in parentheses": (
                "not (a and not " * 25 + "not not (a or not b)" + ")" * 25,
                "not (a and not " * 25 + "not not (a or not not b)" + ")" * 25),
            "a name of 9 letters": ("a and abcdefgh", "a and abcdefghi"),
        }
        for name, (at_bound, too_far) in beyond.items():
            with self.subTest(name):
                self.assertEqual(write(read(at_bound)), at_bound)
                self.assertRaises(InvalidText, read, too_far)

    def test_one_sign_more_or_less(self):
        for _, text in PLACES:
            for at in range(len(text) + 1):
                for sign in " ()\t\n":
                    self.check(text[:at] + sign + text[at:])
                self.check(text[:at] + text[at + 1:])

    def test_a_blank_replaced(self):
        for _, text in PLACES:
            for at, sign in enumerate(text):
                if sign == " ":
                    for other in ["\t", "\n", "  ", "\t ", " \n"]:
                        self.assertRaises(InvalidText, read, text[:at] + other + text[at + 1:])

    def test_one_pair_of_parentheses_more(self):
        for condition, text in PLACES:
            words = text.split(" ")
            for first, last in itertools.combinations_with_replacement(range(len(words)), 2):
                longer = [*words[:first], "(" + words[first], *words[first + 1:]]
                longer[last] += ")"
                self.check(" ".join(longer))
            self.assertRaises(InvalidText, read, f"({text})")

    def test_one_word_more_or_less(self):
        for _, text in PLACES:
            words = text.split(" ")
            for at in range(len(words) + 1):
                self.check(" ".join(words[:at] + words[at + 1:]))
                for word in [*RESERVED, "a"]:
                    self.check(" ".join(words[:at] + [word] + words[at:]))

    def test_all_short_texts(self):
        words = ["a", "b", "not", "and", "or", "if", "else", "(", ")"]
        for number in range(1, 6):
            for chosen in itertools.product(words, repeat=number):
                self.check(" ".join(chosen).replace("( ", "(").replace(" )", ")"))

    def check(self, text):
        """Check that the text is accepted just if it is the text of what Python reads in it."""
        expected = from_python(text)
        if expected is not None and (not is_condition(expected) or write(expected) != text):
            expected = None
        if expected is None:
            self.assertRaises(InvalidText, read, text)
        else:
            self.assertEqual(read(text), expected)


class Place(unittest.TestCase):
    def test_functions_are_defined_in_the_file_that_lists_them(self):
        self.assertEqual([texts.read.__module__, texts.write.__module__], ["leftfirst.texts"] * 2)


if __name__ == "__main__":
    unittest.main()
