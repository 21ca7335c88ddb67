"""Runs of conditions: what they ask, and how they end, with answers in a list or in an assignment."""

from leftfirst.conditions import are_names, both_names, check_condition
from leftfirst.errors import InvalidAnswers, InvalidAssignment, Missing

ANSWERS = ("yes", "no", "fails")
RESULTS = ("yes", "no")
MOST_ANSWERS = 200


def run(condition, answers):
    """Return the names that are asked and the end, if the askings get these answers in their order."""
    check_condition(condition)
    check_answers(answers)
    return walked(rows_of(condition), answers)


def steady_run(condition, assignment):
    """Return the names that are asked, none of them twice, and the end, if the names keep these answers."""
    check_condition(condition)
    check_assignment(assignment)
    return steadily_walked(rows_of(condition), assignment)


def check_answers(value):
    """Raise InvalidAnswers if value is no list of 0 to 200 answers."""
    if not isinstance(value, list) or len(value) > MOST_ANSWERS or not all([answer in ANSWERS for answer in value]):
        raise InvalidAnswers("answers are a list of 0 to 200 strings, each of them yes, no or fails")


def check_assignment(value, answers=RESULTS):
    """Raise InvalidAssignment if value is no assignment of these answers."""
    if not _is_assignment(value, answers):
        raise InvalidAssignment("an assignment is an ascending tuple of at most 8 pairs of a name and an answer")


def _is_assignment(value, answers):
    """Return whether value is an assignment of these answers."""
    if not isinstance(value, tuple) or not all([_is_answered(pair, answers) for pair in value]):
        return False
    return are_names(tuple([name for name, _ in value]))


def _is_answered(value, answers):
    """Return whether value is a pair of anything and of one of the answers."""
    return isinstance(value, tuple) and len(value) == 2 and value[1] in answers


def assignments(names):
    """Return the list of all assignments of these ascending names, in ascending order."""
    found = [()]
    for name in names:
        found = [(*assignment, (name, answer)) for assignment in found for answer in ("no", "yes")]
    return found


def rows_of(condition):
    """Return the list of a row for each test, from left to right: its name and its two targets.

    The rows are run as those of a code, but may be equal to each other, and are numbered as the tests stand.
    """
    return _rows(condition, 0, "yes", "no")


def _rows(condition, start, yes, no):
    """Return the rows of a condition whose first test has the number start, and which leads to yes and to no."""
    kind = condition[0]
    if kind == "test":
        return [(condition[1], yes, no)]
    if kind == "not":
        return _rows(condition[1], start, no, yes)
    if kind == "if":
        return _if_rows(condition, start, yes, no)
    rows = []
    for member in condition[1:-1]:
        first = start + len(rows)
        behind = first + _size(member)
        if kind == "and":
            rows.extend(_rows(member, first, behind, no))
        else:
            rows.extend(_rows(member, first, yes, behind))
    return [*rows, *_rows(condition[-1], start + len(rows), yes, no)]


def _if_rows(condition, start, yes, no):
    """Return the rows of an if, likewise."""
    _, asked, chosen, otherwise = condition
    first = start + _size(asked)
    second = first + _size(chosen)
    return [*_rows(asked, start, first, second), *_rows(chosen, first, yes, no), *_rows(otherwise, second, yes, no)]


def _size(condition):
    """Return the number of tests of what is known to be a condition."""
    if condition[0] == "test":
        return 1
    return sum([_size(member) for member in condition[1:]])


def walked(rows, answers, start=0):
    """Return the names that are asked from this row on and the end, if the askings get these answers in their order."""
    asked = []
    target = start
    while isinstance(target, int):
        name, yes, no = rows[target]
        asked.append(name)
        if len(asked) > len(answers):
            return tuple(asked), "open"
        answer = answers[len(asked) - 1]
        if answer == "fails":
            return tuple(asked), "failed"
        target = yes if answer == "yes" else no
    return tuple(asked), target


def steadily_walked(rows, assignment):
    """Return the names that are asked from row 0 on, none of them twice, and the end, if they keep these answers."""
    asked, end = repeatedly_walked(rows, assignment)
    return tuple({name: True for name in asked}), end


def repeatedly_walked(rows, assignment):
    """Return the list of the names that are asked from row 0 on, as often as they are needed, and the end, likewise."""
    answers = dict(assignment)
    asked = []
    target = 0
    while isinstance(target, int):
        name, yes, no = rows[target]
        if name not in answers:
            raise Missing(name)
        asked.append(name)
        if answers[name] == "fails":
            return asked, "failed"
        target = yes if answers[name] == "yes" else no
    return asked, target


def both_runs(one, other):
    """Return a list of tuples of an assignment and of the steady runs of the two conditions with it.

    It goes through all assignments of the names of both, in ascending order.
    """
    both = both_names(one, other)
    rows = rows_of(one)
    other_rows = rows_of(other)
    return [
        (assignment, steadily_walked(rows, assignment), steadily_walked(other_rows, assignment))
        for assignment in assignments(both)
    ]
