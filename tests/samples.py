"""Values that several test files use, and an evaluation that they compare the program with."""

import copy
import itertools
import random

from leftfirst.codes import is_code

A, B, C, D, E = [("test", name) for name in ("a", "b", "c", "d", "e")]
RESERVED = ["and", "or", "not", "if", "else"]
RESULTS = ["yes", "no"]
ANSWERS = ["yes", "no", "fails"]


def nots(number, condition):
    """So many nots before the condition."""
    for _ in range(number):
        condition = ("not", condition)
    return condition


def flat(kind, names):
    """The tests of these names, joined by kind."""
    return (kind, *[("test", name) for name in names])


def nested(number, kind):
    """A tuple, a list or a dict with so many more of its kind inside, one in another."""
    value = kind()
    for _ in range(number):
        value = {"not": value} if kind is dict else kind(["not", value])
    return value


def bounds():
    """Pairs of a condition at a bound and the same kind of condition one beyond it."""
    eight = "abcdefgh"
    return {
        "60 tests in an and": (flat("and", "a" * 60), flat("and", "a" * 61)),
        "60 tests in an or": (flat("or", "abc" * 20), flat("or", "abc" * 20 + "a")),
        "60 tests in ifs": (
            ("if", flat("or", "a" * 20), flat("and", "b" * 20), flat("and", "c" * 20)),
            ("if", flat("or", "a" * 20), flat("and", "b" * 20), flat("and", "c" * 21)),
        ),
        "60 tests, half of them in a not": (
            ("or", ("not", flat("and", "a" * 30)), flat("and", "a" * 30)),
            ("or", ("not", flat("and", "a" * 31)), flat("and", "a" * 30)),
        ),
        "200 nots": (
            ("and", nots(60, A), nots(70, B), nots(70, A)),
            ("and", nots(61, A), nots(70, B), nots(70, A)),
        ),
        "200 nots in an if": (
            ("not", ("if", nots(60, A), nots(70, B), nots(69, A))),
            ("not", ("if", nots(60, A), nots(70, B), nots(70, A))),
        ),
        "8 names": (flat("or", eight), flat("or", eight + "i")),
        "8 names, each twice": (
            ("if", flat("and", eight), A, flat("or", eight)),
            ("if", flat("and", eight), ("test", "i"), flat("or", eight)),
        ),
        "80 deep by nots": (nots(79, A), nots(80, A)),
        "80 deep in the first member": (("and", nots(78, A), B), ("and", nots(79, A), B)),
        "80 deep in the last member": (("or", B, nots(78, A)), ("or", B, nots(79, A))),
        "80 deep in the middle": (("or", B, nots(78, A), B), ("or", B, nots(79, A), B)),
        "80 deep in c": (("if", nots(78, A), B, C), ("if", nots(79, A), B, C)),
        "80 deep in x": (("if", A, nots(78, A), C), ("if", A, nots(79, A), C)),
        "80 deep in y": (("if", A, B, nots(78, A)), ("if", A, B, nots(79, A))),
        "80 deep by ands, ors and ifs": (mixed_depth(80), mixed_depth(81)),
    }


def mixed_depth(depth):
    """A condition that is so deep, with every kind of condition on the way."""
    condition = A
    for k in range(depth - 1):
        condition = [("not", condition), ("and", condition, B), ("or", C, condition), ("not", condition),
                     ("if", condition, A, B), ("not", condition)][k % 6]
    return condition


def plain_values():
    """Values of every kind, none of which is a name, a condition or a text of one."""
    return [None, True, False, 0, 1, -7, 10 ** 999, "", "%", (), [], {}, (None,), [None], {"a": 1}, {1: ("test", "a")}]


def invalid_names():
    """Values that are no names."""
    texts = ["", "abcdefghi", "a" * 30000, "A", "aB", "Note", "a1", "1", "a_b", "_", "a b", " a", "a ", "a\n", "\na",
             "a\t", "a-b", "not a", "(a)", "`", "{", "a.b", *RESERVED]
    return [*plain_values(), *texts, ("a",), ["a"], {"a": "a"}, ("test", "a"), nested(99, list)]


def invalid_names_tuples():
    """Values that are no ascending tuples of 1 to 8 different names."""
    found = [*plain_values(), "a", "ab", ["a"], ["a", "b"], {"a": "b"}, (("a",),), (["a"],), ("a", ["b"]),
             (("test", "a"),)]
    found += [tuple(letters) for letters in ["ba", "aa", "acb", "aab", "abb", "abcdefhg", "abcdefghi", "abcdefghh",
                                             "abcdefghij"]]
    found += [("b", "ab"), ("ab", "a"), ("a", "b", "a"), ("b", "a", "c")]
    found += [(name,) for name in invalid_names()] + [("a", name) for name in invalid_names()]
    return [*found, ("a",) * 400, tuple(f"n{letter}" for letter in "abcdefghijkl"), nested(99, tuple), nested(99, list)]


def invalid_conditions():
    """Values that are no conditions."""
    found = [*plain_values(), "a", "test", "a and b", *[beyond for _, beyond in bounds().values()]]
    found += [("test", name) for name in invalid_names()]
    found += [("test",), ("test", "a", "b"), ("test", "a", None), ("not",), ("not", A, A), ("not", "a"),
              ("not", A, None)]
    for kind in ("and", "or"):
        found += [(kind,), (kind, A), (kind, "a", "b"), (kind, A, "b"), (kind, A, None), (kind, [A, B]), (kind, (A, B))]
    found += [("if",), ("if", A), ("if", A, B), ("if", A, B, C, D), ("if", "a", "b", "c"), ("if", (A, B, C))]
    found += [("a",), ("a", "b"), (A,), (A, B), ("test", A), ("else", A), ("xor", A, B), ("AND", A, B), ("Not", A),
              ("TEST", "a"), ("", A), (None, A, B), (("and",), A, B), (["and"], A, B), (True, A), (1, A), ({}, A, B)]
    found += [["test", "a"], ["not", A], ["and", A, B], ["or", A, B], ["if", A, B, C], {"test": "a"}]
    found += [("not", ["test", "a"]), ("and", ["test", "a"], B), ("or", A, ["test", "b"]), ("if", A, B, ["test", "c"])]
    found += [nots(99, A), nots(99, None), nested(99, tuple), nested(99, list), nested(99, dict), deep_and(99)]
    found += [flat("and", ["a"] * 399), flat("or", ["a"] * 399), ("not",) * 400, ("and", *[[0] * 399] * 24)]
    found += [("and", *[flat("or", ["a"] * 150)] * 30), ("or", *[("not", ("and",))] * 399), [A] * 400]
    found += [{f"k{k}": A for k in range(400)}, "a" * 30000, "a and " * 5000]
    return found


def deep_and(depth):
    """Ands that are so deep, one in another."""
    condition = A
    for _ in range(depth - 1):
        condition = ("and", condition, A)
    return condition


def small_conditions():
    """Every kind of condition with every kind of condition at each of its places, and some that are deeper."""
    parts = [A, ("test", "note"), ("not", A), ("not", ("not", B)), ("and", A, B), ("or", B, A), ("if", A, B, C),
             ("not", ("and", A, B)), ("and", ("or", A, B), ("not", C))]
    found = list(parts)
    for one in parts:
        found.append(("not", one))
        for other in parts:
            found += [("and", one, other), ("or", one, other)]
            for third in parts:
                found += [("and", one, other, third), ("or", one, other, third), ("if", one, other, third)]
    deeper = found[::31]
    found += [(kind, one, other) for kind in ("and", "or") for one in deeper for other in deeper]
    found += [("if", one, other, A) for one in deeper for other in deeper]
    found += [("if", A, one, other) for one in deeper for other in deeper]
    found += [("not", one) for one in found]
    return found


def unchanged(case, function, *arguments):
    """Call the function, and check that its arguments stay as they were, whether it raises an error or not."""
    before = copy.deepcopy(arguments)
    try:
        return function(*arguments)
    finally:
        case.assertEqual(repr(arguments), repr(before))


def evaluation(condition):
    """Evaluate the condition as point 4 tells: yield each name that is asked, take its answer, and return the end."""
    kind, *members = condition
    if kind == "test":
        return (yield members[0])
    if kind == "not":
        end = yield from evaluation(members[0])
        return "no" if end == "yes" else "yes"
    if kind == "if":
        end = yield from evaluation(members[0])
        return (yield from evaluation(members[1] if end == "yes" else members[2]))
    for member in members:
        end = yield from evaluation(member)
        if end == ("no" if kind == "and" else "yes"):
            return end
    return end


def told(condition, answers):
    """The names that are asked and the end, if the askings get these answers in their order."""
    going = evaluation(condition)
    asked = [next(going)]
    for answer in answers:
        if answer == "fails":
            return tuple(asked), "failed"
        try:
            asked.append(going.send(answer))
        except StopIteration as stop:
            return tuple(asked), stop.value
    return tuple(asked), "open"


def told_steadily(condition, answered):
    """The names that are asked, none twice, and the end, if they keep the answers of this dict (KeyError: missing)."""
    going = evaluation(condition)
    asked = []
    name = next(going)
    while True:
        answer = answered[name]
        if name not in asked:
            asked.append(name)
        if answer == "fails":
            return tuple(asked), "failed"
        try:
            name = going.send(answer)
        except StopIteration as stop:
            return tuple(asked), stop.value


def tree_of(condition, answered=()):
    """The steady tree of a condition: a result, or a tuple of the name that is asked and of the trees behind it."""
    try:
        return told_steadily(condition, dict(answered))[1]
    except KeyError as missing:
        name = missing.args[0]
    return (name, *[tree_of(condition, [*answered, (name, answer)]) for answer in ("yes", "no")])


def free_tree(condition, answers=()):
    """The tree of all evaluations of a condition: a result, or a tuple of the name that is asked and of two trees."""
    asked, end = told(condition, answers)
    if end != "open":
        return end
    return (asked[-1], *[free_tree(condition, [*answers, answer]) for answer in ("yes", "no")])


def ends_of(condition, names, choices=("yes", "no", "fails")):
    """The ends for all assignments of these names, with these answers, in a fixed order."""
    return tuple([told_steadily(condition, dict(answered))[1] for answered in all_assignments(names, choices)])


def ways(run, choices=("yes", "no", "fails")):
    """All lists of answers that lead to an end, none of them longer than needed. (run takes a list of answers.)"""
    found = []
    waiting = [[]]
    while waiting:
        answers = waiting.pop()
        if run(answers)[1] == "open":
            waiting += [[*answers, answer] for answer in choices]
        else:
            found.append(answers)
    return found


def all_assignments(names, choices=("yes", "no")):
    """All assignments of these ascending names."""
    return [tuple(zip(names, answers)) for answers in itertools.product(choices, repeat=len(names))]


def random_condition(source, number, names, with_if):
    """A condition with so many tests, with names out of these; source is a random.Random."""
    if source.random() < 0.2:
        return ("not", random_condition(source, number, names, with_if))
    if number == 1:
        return ("test", source.choice(names))
    kind = source.choice(["and", "or", "if"] if with_if and number > 2 else ["and", "or"])
    many = 3 if kind == "if" else source.randint(2, min(4, number))
    cuts = sorted(source.sample(range(1, number), many - 1))
    sizes = [high - low for low, high in zip([0, *cuts], [*cuts, number])]
    return (kind, *[random_condition(source, size, names, with_if) for size in sizes])


def random_conditions(many, largest, names, with_if=True, seed=1):
    """So many conditions with at most so many tests each, always the same ones."""
    source = random.Random(seed)
    return [random_condition(source, source.randint(1, largest), names, with_if) for _ in range(many)]


def steady_trees(names):
    """All trees in which no name is asked twice on a way: results, or tuples of a name and of the trees behind it."""
    found = ["yes", "no"]
    for name in names:
        later = steady_trees([other for other in names if other != name])
        found += [(name, yes, no) for yes in later for no in later]
    return found


def code_of_tree(tree):
    """The code of a tree that is no result: as point 6 tells, with each row in the place where it is met first."""
    rows = []
    places = {}

    def place(part):
        if isinstance(part, str):
            return part
        if part not in places:
            places[part] = len(rows)
            rows.append(None)
            name, yes, no = part
            rows[places[part]] = (name, place(yes), place(no))
        return places[part]

    place(tree)
    # The targets are placed after the row, the yes target with all that follows it first: so this is the order of 6.
    return tuple(rows)


def chain(number, names="abcdefgh"):
    """A code with so many rows, of which each leads to the next one with yes, with these names in turn."""
    rows = [(names[k % len(names)], k + 1, "no") for k in range(number)]
    return (*rows[:-1], (rows[-1][0], "yes", "no"))


def all_codes(number, names):
    """All codes with so many rows that have these names in their order."""
    targets = ["yes", "no", *range(number)]
    for chosen in itertools.product(itertools.product(targets, repeat=2), repeat=number):
        rows = tuple([(name, *pair) for name, pair in zip(names, chosen)])
        if is_code(rows):
            yield rows


def random_code(source, number):
    """A code with so many rows that has no condition in general; source is a random.Random."""
    rows = []
    for k in range(number):
        later = ["yes", "no", *range(max(0, k - 6), k)]
        rows.append((source.choice("abcdefgh"), k - 1 if k else "yes", source.choice(later)))
    # The last row is the first one now: so the rows are numbered from the end, along the yes targets.
    return tuple([tuple([number - 1 - part if isinstance(part,
                                                         int) else part for part in row]) for row in reversed(rows)])


def invalid_codes():
    """Values that are no codes."""
    one = (("a", 1, "no"), ("b", "yes", "no"))
    found = [*plain_values(), "a", "yes", A, ("and", A, B), nested(99, tuple), nested(99, list), nested(99, dict)]
    found += [list(one), [*one], (list(one[0]), one[1]), (one[0], list(one[1])), {0: one[0], 1: one[1]}, one[1], (one,)]
    found += [(("a", "yes", "no", "no"),), (("a", "yes"),), (("a",),), ((),), ("a",), (None,),
              (("a", "yes", "no"), None)]
    found += [((name, "yes", "no"),) for name in invalid_names()]
    targets = [True, False, None, -1, 1, 2, 60, 10 ** 999, -10 ** 999, "", "Yes", "NO", "fails", "failed", "open", "a",
               "0", "1", "yes ", " no", (), [], {}, ("yes",), ["no"], (0,), [0], nested(95, tuple)]
    found += [(("a", target, "no"),) for target in targets] + [(("a", "yes", target),) for target in targets]
    second = [target for target in targets if target != 1 or target is True]
    found += [(("a", target, "no"), one[1]) for target in second]
    found += [(one[0], ("b", target, "no")) for target in targets] + [(one[0],
                                                                       ("b", "yes", target)) for target in targets]
    found += [*misplaced_codes(), *cyclic_codes(), chain(61), chain(400), chain(9, "abcdefghi"),
              (("a", "yes", "no"),) * 400]
    return found


def misplaced_codes():
    """Tuples of rows that are no codes because of the order of the rows, of equal rows, or of rows never met."""
    return [
        (("a", 2, "no"), ("c", "yes", "no"), ("b", 1, "no")),
        (("a", 2, 1), ("b", 2, "no"), ("c", "yes", "no")),
        (("a", 2, 1), ("b", "yes", "no"), ("c", "yes", "no")),
        (("b", "yes", "no"), ("a", 0, "no")),
        (("a", "yes", "no"), ("b", "yes", "no")),
        (("a", 1, "no"), ("b", "yes", "no"), ("c", "yes", "no")),
        (("a", 1, "no"), ("b", "yes", "no"), ("c", 1, "no")),
        (("a", 1, 2), ("b", "yes", "no"), ("b", "yes", "no")),
        (("a", 1, 3), ("b", 2, "no"), ("c", "yes", "no"), ("c", "yes", "no")),
        (("a", "yes", "no"), ("a", "yes", "no")),
        (("a", 1, 3), ("b", 2, "no"), ("c", "yes", "no"), ("b", 2, "no")),
    ]


def cyclic_codes():
    """Tuples of rows that are no codes because a row leads back to itself."""
    return [
        (("a", 0, "no"),),
        (("a", "yes", 0),),
        (("a", 0, 0),),
        (("a", 1, "no"), ("b", 1, "no")),
        (("a", 1, "no"), ("b", 0, "no")),
        (("a", 1, "no"), ("b", "yes", 0)),
        (("a", 1, "no"), ("b", 2, "no"), ("c", 0, "no")),
        (("a", 1, "no"), ("b", 2, "no"), ("c", "yes", 1)),
        (("a", 1, 3), ("b", 2, "no"), ("c", "yes", 3), ("d", 2, "no")),
        (("a", "yes", "no"), ("b", 1, "no")),
        (*chain(59)[:-1], ("c", 59, "no"), ("d", 0, "no")),
    ]


def invalid_answers():
    """Values that are no answers."""
    found = [value for value in plain_values() if value != []]
    found += ["yes", "no", ("yes",), ("yes", "no"), {"yes": "no"}, {0: "yes"}, ["yes"] * 201, ["fails"] * 400]
    found += [[*before, bad, *behind] for before, behind in [([], []), (["yes"], ["no"]), (["fails"] * 199, [])]
              for bad in ["", "Yes", "NO", "fail", "failed", "open", "yes ", " no", None, True, False, 0, 1, [],
                          ["yes"], (),
                          ("yes",), {}, {"yes": "yes"}, nested(98, list), nested(98, tuple)]]
    return found


def invalid_assignments(answers=("yes", "no")):
    """Values that are no assignments of these answers."""
    found = [value for value in plain_values() if value != ()]
    found += ["yes", ["a", "yes"], ("a", "yes"), [("a", "yes")], {"a": "yes"}, (["a", "yes"],), ({"a": "yes"},)]
    found += [(("a", "yes"), ["b", "no"]), ("ay", "bn"), (("a",),), ((),), (("a", "yes", "no"),),
              (("a", "yes"), ("b",))]
    found += [((name, "yes"),) for name in invalid_names()] + [(("a", "no"), (name, "yes")) for name in invalid_names()]
    bad = ["", "Yes", "NO", "fail", "failed", "open", "yes ", None, True, False, 0, 1, [], ["yes"], (), ("yes",), {}]
    bad += [answer for answer in ANSWERS if answer not in answers]
    found += [(("a", answer),) for answer in bad] + [(("a", "yes"), ("b", answer)) for answer in bad]
    for names in ["ba", "aa", "acb", "aab", "abb", "abcdefhg", "abcdefghi", "abcdefghh"]:
        found.append(tuple([(name, "yes") for name in names]))
    found += [(("b", "yes"), ("ab", "yes")), (("ab", "no"), ("a", "yes")), (("a", "yes"), ("a", "no"))]
    found += [(("a", "yes"),) * 400, tuple(nested(97, tuple) for _ in range(8)), nested(99, tuple), nested(99, list)]
    return found


def invalid_kinds():
    """Values that are neither "and" nor "or"."""
    return [*plain_values(), "not", "if", "else", "test", "AND", "Or", "and ", " or", "and or", "a", "xor", ["and"],
            ("or",),
            {"and": "or"}, nested(99, list), "and" * 9999]


def invalid_numbers(least, most):
    """Values that are no integers from least to most."""
    found = [value for value in plain_values() if not isinstance(value, int) or isinstance(value, bool)]
    found += [least - 1, most + 1, least - 100, most + 100, 10 ** 999, -10 ** 999]
    return [*found, str(least), str(most), [least], (most,), {most: most}, nested(99, list)]


def invalid_strengths():
    """Values that are none of the four strengths."""
    return [*plain_values(), "none", "Free", "STEADY", "free ", " truth", "outcomes", "equal", "yes", "a",
            "free steady", ["free"],
            ("steady",), {"truth": "truth"}, nested(99, list), nested(99, tuple), "truth" * 6000]


def invalid_memories():
    """Values that are no memories."""
    pair, other = (("a",), "yes"), (("a", "b"), "no")
    found = [value for value in plain_values() if value != []]
    found += [pair, (pair,), (pair, other), {("a",): "yes"}, {0: pair}, "yes", [pair, None], [None, pair], ["yes"],
              ["yes", "no"]]
    found += [[list(pair)], [pair, list(other)], [{("a",): "yes"}], [(["a"], "yes")], [pair, (["a", "b"], "no")]]
    found += [[("a", "yes")], [({"a": "a"}, "yes")], [({}, "yes")], [(None, "yes")], [("", "yes")], [((), "yes")]]
    found += [[pair, ((), "no")], [(("a",) * 61, "yes")], [pair, (("a", "b") * 31, "no")], [(("a",) * 400, "yes")]]
    found += [[(("a",),)], [(("a",), "yes", "no")], [()], [("yes", ("a",))], [((("a",),), "yes")],
              [(("a", ("b",)), "yes")]]
    found += [[pair, pair], [pair, (("a",), "no")], [pair, other, pair], [other, pair, (("a", "b"), "yes")]]
    found += [[*long_memory(199), (("a", "a"), "no")], long_memory(201), long_memory(400), [pair] * 200]
    found += [[((name,), "yes")] for name in invalid_names()] + [[pair,
                                                                  (("a", name), "yes")] for name in invalid_names()]
    bad = ["fails", "failed", "open", "", "Yes", "NO", "yes ", None, True, False, 0, 1, [], ["yes"], (), ("yes",), {}]
    return [*found, *[[(("a",), answer)] for answer in bad], *[[pair, (("a", "b"), answer)] for answer in bad],
            [(nested(97, tuple), "yes")], [nested(98, tuple)], nested(99, list), nested(99, tuple)]


def long_memory(number):
    """A memory with so many pairs, none of them with more than 30 names."""
    return [((*["b"] * (k // 20), *["a"] * (k % 20 + 1)), "yes" if k % 3 else "no") for k in range(number)]


def invalid_machines():
    """Values that are no machines."""
    both = (("jump", "a", "no", "no"), ("jump", "b", "yes", "yes"), ("goto", "no"))
    found = [*plain_values(), "a", "goto", A, ("and", A, B), both[0], both[2], ("goto", "yes"), (both,), {0: both[2]}]
    found += [list(both), [*both], (list(both[0]), both[2]), (both[0], list(both[2])), ({}, both[2]), (None, both[2])]
    found += [(both[0], None), (both[0], ()), ((), both[2]), ("goto", both[2]), (("goto",),), (("goto", "no", "no"),),
              ("ab",)]
    found += [(("jump", "a", "no"), both[2]), (("jump", "a"), both[2]), (("jump", "a", "no", "no", "no"), both[2]),
              (("jump",),)]
    found += [(("go", "no"),), (("GOTO", "no"),), (("", "no"),), ((None, "no"),), (("jump", "no"),),
              ((("goto",), "no"),)]
    found += [(("go", "no"), both[2]), (("GOTO", "no"), both[2]), ((None, "no"), both[2]), (("jump", "no"), both[2])]
    found += [(("goto", "a", "no", "no"), both[2]), (("Jump", "a", "no", "no"), both[2]),
              ((None, "a", "no", "no"), both[2])]
    found += [(("jump", name, "no", "no"), both[2]) for name in invalid_names()]
    found += [(("goto", "yes"), ("jump", name, "no", "no"), both[2]) for name in invalid_names()]
    bad = ["fails", "failed", "open", "", "Yes", "NO", "yes ", None, True, False, 0, 1, [], ["yes"], (), ("yes",), {}]
    found += [(("jump", "a", answer, "no"), both[2]) for answer in bad]
    targets = [True, False, None, -1, 3, 4, 120, 10 ** 999, -10 ** 999, "", "Yes", "NO", "fails", "failed", "open", "a",
               "0", "1", "yes ", " no", (), [], {}, ("yes",), ["no"], (0,), [0], nested(95, tuple)]
    found += [(("jump", "a", "no", target), *both[1:]) for target in targets]
    found += [(("goto", target), *both[1:]) for target in targets] + [(*both[:2],
                                                                       ("goto", target)) for target in targets]
    found += [both[:2], both[:1], (both[2], both[0]), (*both, both[1]), (("goto", 0),), (("goto", 1), ("goto", 0))]
    found += [(("goto", "yes"), ("goto", 1)), (("goto", "yes"), ("jump", "a", "no", 1), both[2])]
    found += [(("goto", "no"),) * 121, (("goto", "no"),) * 400, (*[("jump", "a", "no", "no")] * 120, both[2])]
    found += [(*[("jump", name, "no", "no") for name in "abcdefghi"], both[2])]
    found += [(both[2], *[("jump", name, "no", "no") for name in "abcdefghi"], both[2])]
    return [*found, nested(99, tuple), nested(99, list), nested(99, dict), both[0] * 100, (both[2], [both[2]] * 300)]
