"""Conditions whose names keep their answers and may fail, and of which only the end is seen."""

from math import comb

from leftfirst.codes import bounded
from leftfirst.conditions import check_condition
from leftfirst.running import ANSWERS, both_runs, check_assignment, rows_of, steadily_walked
from leftfirst.steady import MOST_COUNTED, check_number, steady_tree, tree_code


def outcome(condition, answered):
    """Return how the condition ends if every name keeps its answer."""
    check_condition(condition)
    check_assignment(answered, ANSWERS)
    return steadily_walked(rows_of(condition), answered)[1]


def always_asked(condition):
    """Return the ascending tuple of the names that are asked for all assignments."""
    return tuple(_always(steady_tree(condition)))


def _always(tree):
    """Return the ascending list of the names that are asked on all ways through the steady tree."""
    if isinstance(tree, str):
        return []
    name, yes, no = tree
    after_no = _always(no)
    return sorted([name, *[other for other in _always(yes) if other in after_no]])


def outcome_code(condition):
    """Return the only steady code that asks and ends as the condition does, and asks the least name first.

    (The least of those that are asked on all ways from there on.)
    """
    return bounded(tree_code(outcome_tree(steady_tree(condition))))


def outcome_tree(tree):
    """Return the only steady tree that is outcome equal to this one, and asks the least name first, likewise."""
    if isinstance(tree, str):
        return tree
    name = _always(tree)[0]
    return (name, outcome_tree(_answered(tree, name, "yes")), outcome_tree(_answered(tree, name, "no")))


def _answered(tree, name, answer):
    """Return what is left of the steady tree if the name has this answer, so that it is not asked."""
    if isinstance(tree, str):
        return tree
    asked, yes, no = tree
    if asked == name:
        return yes if answer == "yes" else no
    return (asked, _answered(yes, name, answer), _answered(no, name, answer))


def outcome_difference(one, other):
    """Return None, or an outcome assignment with at most one fails for which the conditions end in different ways."""
    for assignment, (asked, end), (other_asked, other_end) in both_runs(one, other):
        if end != other_end:
            return assignment
        # What only one of them asks makes only this one fail.
        for name, _ in assignment:
            if (name in asked) != (name in other_asked):
                return _with_failure(assignment, name)
    return None


def _with_failure(assignment, failing):
    """Return the assignment in which this name fails."""
    return tuple([(name, "fails" if name == failing else answer) for name, answer in assignment])


def outcome_count(number):
    """Return how many conditions there are with names out of so many, no two of them outcome equal."""
    check_number(number, 0, MOST_COUNTED)
    counts = [2]
    for size in range(1, number + 1):
        counts.append(_outcome_total(counts, size))
    return counts[number] - 2


def _outcome_total(counts, size):
    """Return the number for so many names, results counted, from the numbers for all fewer names."""
    total = 2
    for several in range(1, size + 1):
        power = counts[size - several]
        # A number that is squared so many times is raised to the power 2 ** several.
        for _ in range(several):
            power = power * power
        sign = 1 if several & 1 else -1
        total += sign * comb(size, several) * power
    return total
