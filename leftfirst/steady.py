"""Conditions whose names keep their answers: steady trees and codes, and how many of them there are.

A steady tree is a result, or a tuple of the name that is asked and of the trees for its answers yes and no, which do
not ask this name again. With at most 8 names it has at most 255 askings, so it may be built whole.
"""

from leftfirst.codes import bounded, check_code, cut, met, tidied
from leftfirst.conditions import check_condition, is_condition
from leftfirst.errors import InvalidNumber, TooLarge
from leftfirst.running import rows_of

MOST_COUNTED = 8


def pruned(condition):
    """Return the steady code that asks and ends as steady_run does for all assignments."""
    return bounded(tree_code(steady_tree(condition)))


def steady_tree(condition):
    """Return the steady tree that asks and ends as steady_run does for all assignments."""
    check_condition(condition)
    return _tree(rows_of(condition), 0, {})


def _tree(rows, target, known):
    """Return the steady tree of what follows from the target on, if these answers are known."""
    if isinstance(target, str):
        return target
    name, yes, no = rows[target]
    if name in known:
        return _tree(rows, yes if known[name] == "yes" else no, known)
    return (name, _tree(rows, yes, {**known, name: "yes"}), _tree(rows, no, {**known, name: "no"}))


def tree_code(tree):
    """Return the code, of any size, of a steady tree that asks a name."""
    return tidied(_tree_rows(tree, 0))


def _tree_rows(tree, start):
    """Return the rows of a tree, the first of which has the number start: one for each asking."""
    if isinstance(tree, str):
        return []
    name, yes, no = tree
    yes_rows = _tree_rows(yes, start + 1)
    no_start = start + 1 + len(yes_rows)
    row = (name, yes if isinstance(yes, str) else start + 1, no if isinstance(no, str) else no_start)
    return [row, *yes_rows, *_tree_rows(no, no_start)]


def is_steady(code):
    """Return whether no name is asked twice on any way through the code."""
    check_code(code)
    return all([row[0] not in _later_names(code, at) for at, row in enumerate(code)])


def _later_names(code, start):
    """Return the names that are asked on the ways from this row on, behind it."""
    return [code[at][0] for at in met(code, start)[1:] if isinstance(at, int)]


def unpruned(code):
    """Return a condition without if whose pruned code is this one, or None if the code is not steady."""
    if not is_steady(code):
        return None
    condition = _condition_from(code)
    if not is_condition(condition):
        raise TooLarge("the condition would have more than 60 tests")
    return condition


def _condition_from(code):
    """Return a condition without if, of any size, whose pruned code is this steady one.

    It has at most twice as many tests as the steady tree has askings: so at most 30, if there are 4 names.
    """
    name, yes, no = code[0]
    if isinstance(yes, str) and isinstance(no, str):
        return _condition_of_row(name, yes, no)
    for at in range(1, len(code)):
        ends = [target for target in met(code, 0, at) if isinstance(target, str)]
        if len(ends) < 2:
            return _divided(code, at, "or" if ends == ["yes"] else "and")
    # Neither target is a result, as the code would be divided at the other one. Where the test stands for the second
    # time, its answer is known: it only keeps the two ways apart.
    chosen = ("and", ("test", name), _condition_from(tidied(code, yes)))
    return ("or", chosen, ("and", ("not", ("test", name)), _condition_from(tidied(code, no))))


def _condition_of_row(name, yes, no):
    """Return the condition that asks just this name and ends with these results."""
    if yes == no:
        return ("or" if yes == "yes" else "and", ("test", name), ("not", ("test", name)))
    return ("test", name) if yes == "yes" else ("not", ("test", name))


def _divided(code, at, kind):
    """Return the condition of this kind for a code, all ways of which lead to this row or settle the condition."""
    before = cut(code, at, "yes" if kind == "and" else "no")
    return (kind, _condition_from(tidied(before)), _condition_from(tidied(code, at)))


def steady_count(number):
    """Return how many conditions there are with names out of so many, no two of them steady equal."""
    check_number(number, 0, MOST_COUNTED)
    total = 2
    for size in range(1, number + 1):
        total = 2 + size * total * total
    return total - 2


def check_number(value, least, most):
    """Raise InvalidNumber if value is no integer from least to most."""
    if not isinstance(value, int) or isinstance(value, bool) or not least <= value <= most:
        raise InvalidNumber(f"an integer from {least} to {most} is required")
