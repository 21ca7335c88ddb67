"""Values that several test files use."""

import copy

A, B, C, D, E = [("test", name) for name in ("a", "b", "c", "d", "e")]
RESERVED = ["and", "or", "not", "if", "else"]


def nots(number, condition):
    """So many nots before the condition."""
    for _ in range(number):
        condition = ("not", condition)
    return condition


def flat(kind, names):
    """The tests of these names, joined by kind."""
    return (kind, *[("test", name) for name in names])


def nested(number, kind):
    """A tuple, a list or a dict with so many more of its kind inside, one in another."""
    value = kind()
    for _ in range(number):
        value = {"not": value} if kind is dict else kind(["not", value])
    return value


def bounds():
    """Pairs of a condition at a bound and the same kind of condition one beyond it."""
    eight = "abcdefgh"
    return {
        "60 tests in an and": (flat("and", "a" * 60), flat("and", "a" * 61)),
        "60 tests in an or": (flat("or", "abc" * 20), flat("or", "abc" * 20 + "a")),
        "60 tests in ifs": (
            ("if", flat("or", "a" * 20), flat("and", "b" * 20), flat("and", "c" * 20)),
            ("if", flat("or", "a" * 20), flat("and", "b" * 20), flat("and", "c" * 21)),
        ),
        "60 tests, half of them in a not": (
            ("or", ("not", flat("and", "a" * 30)), flat("and", "a" * 30)),
            ("or", ("not", flat("and", "a" * 31)), flat("and", "a" * 30)),
        ),
        "200 nots": (
            ("and", nots(60, A), nots(70, B), nots(70, A)),
            ("and", nots(61, A), nots(70, B), nots(70, A)),
        ),
        "200 nots in an if": (
            ("not", ("if", nots(60, A), nots(70, B), nots(69, A))),
            ("not", ("if", nots(60, A), nots(70, B), nots(70, A))),
        ),
        "8 names": (flat("or", eight), flat("or", eight + "i")),
        "8 names, each twice": (
            ("if", flat("and", eight), A, flat("or", eight)),
            ("if", flat("and", eight), ("test", "i"), flat("or", eight)),
        ),
        "80 deep by nots": (nots(79, A), nots(80, A)),
        "80 deep in the first member": (("and", nots(78, A), B), ("and", nots(79, A), B)),
        "80 deep in the last member": (("or", B, nots(78, A)), ("or", B, nots(79, A))),
        "80 deep in the middle": (("or", B, nots(78, A), B), ("or", B, nots(79, A), B)),
        "80 deep in c": (("if", nots(78, A), B, C), ("if", nots(79, A), B, C)),
        "80 deep in x": (("if", A, nots(78, A), C), ("if", A, nots(79, A), C)),
        "80 deep in y": (("if", A, B, nots(78, A)), ("if", A, B, nots(79, A))),
        "80 deep by ands, ors and ifs": (mixed_depth(80), mixed_depth(81)),
    }


def mixed_depth(depth):
    """A condition that is so deep, with every kind of condition on the way."""
    condition = A
    for k in range(depth - 1):
        condition = [("not", condition), ("and", condition, B), ("or", C, condition), ("not", condition),
                     ("if", condition, A, B), ("not", condition)][k % 6]
    return condition


def plain_values():
    """Values of every kind, none of which is a name, a condition or a text of one."""
    return [None, True, False, 0, 1, -7, 10 ** 999, "", "%", (), [], {}, (None,), [None], {"a": 1}, {1: ("test", "a")}]


def invalid_names():
    """Values that are no names."""
    texts = ["", "abcdefghi", "a" * 30000, "A", "aB", "Note", "a1", "1", "a_b", "_", "a b", " a", "a ", "a\n", "\na",
             "a\t", "a-b", "not a", "(a)", "`", "{", "a.b", *RESERVED]
    return [*plain_values(), *texts, ("a",), ["a"], {"a": "a"}, ("test", "a"), nested(99, list)]


def invalid_conditions():
    """Values that are no conditions."""
    found = [*plain_values(), "a", "test", "a and b", *[beyond for _, beyond in bounds().values()]]
    found += [("test", name) for name in invalid_names()]
    found += [("test",), ("test", "a", "b"), ("test", "a", None), ("not",), ("not", A, A), ("not", "a"), ("not", A, None)]
    for kind in ("and", "or"):
        found += [(kind,), (kind, A), (kind, "a", "b"), (kind, A, "b"), (kind, A, None), (kind, [A, B]), (kind, (A, B))]
    found += [("if",), ("if", A), ("if", A, B), ("if", A, B, C, D), ("if", "a", "b", "c"), ("if", (A, B, C))]
    found += [("a",), ("a", "b"), (A,), (A, B), ("test", A), ("else", A), ("xor", A, B), ("AND", A, B), ("Not", A),
              ("TEST", "a"), ("", A), (None, A, B), (("and",), A, B), (["and"], A, B), (True, A), (1, A), ({}, A, B)]
    found += [["test", "a"], ["not", A], ["and", A, B], ["or", A, B], ["if", A, B, C], {"test": "a"}]
    found += [("not", ["test", "a"]), ("and", ["test", "a"], B), ("or", A, ["test", "b"]), ("if", A, B, ["test", "c"])]
    found += [nots(99, A), nots(99, None), nested(99, tuple), nested(99, list), nested(99, dict), deep_and(99)]
    found += [flat("and", ["a"] * 399), flat("or", ["a"] * 399), ("not",) * 400, ("and", *[[0] * 399] * 24)]
    found += [("and", *[flat("or", ["a"] * 150)] * 30), ("or", *[("not", ("and",))] * 399), [A] * 400]
    found += [{f"k{k}": A for k in range(400)}, "a" * 30000, "a and " * 5000]
    return found


def deep_and(depth):
    """Ands that are so deep, one in another."""
    condition = A
    for _ in range(depth - 1):
        condition = ("and", condition, A)
    return condition


def small_conditions():
    """Every kind of condition with every kind of condition at each of its places, and some that are deeper."""
    parts = [A, ("test", "note"), ("not", A), ("not", ("not", B)), ("and", A, B), ("or", B, A), ("if", A, B, C),
             ("not", ("and", A, B)), ("and", ("or", A, B), ("not", C))]
    found = list(parts)
    for one in parts:
        found.append(("not", one))
        for other in parts:
            found += [("and", one, other), ("or", one, other)]
            for third in parts:
                found += [("and", one, other, third), ("or", one, other, third), ("if", one, other, third)]
    deeper = found[::31]
    found += [(kind, one, other) for kind in ("and", "or") for one in deeper for other in deeper]
    found += [("if", one, other, A) for one in deeper for other in deeper]
    found += [("if", A, one, other) for one in deeper for other in deeper]
    found += [("not", one) for one in found]
    return found


def unchanged(case, function, *arguments):
    """Call the function, and check that its arguments stay as they were, whether it raises an error or not."""
    before = copy.deepcopy(arguments)
    try:
        return function(*arguments)
    finally:
        case.assertEqual(repr(arguments), repr(before))
