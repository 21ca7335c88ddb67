"""The four strengths of equality, and what shows that two conditions are not equal."""

from collections import deque

from leftfirst.codes import code
from leftfirst.conditions import MOST_TESTS, both_names, check_condition, is_name
from leftfirst.errors import InvalidAnswers, InvalidStrength
from leftfirst.outcome import outcome_difference
from leftfirst.running import RESULTS, both_runs, rows_of, walked

# From the strongest to the weakest.
STRENGTHS = ("free", "steady", "outcome", "truth")
MOST_PAIRS = 200


def equal(one, other, strength):
    """Return whether the two conditions are equal in this strength."""
    check_condition(one)
    check_condition(other)
    if strength not in STRENGTHS:
        raise InvalidStrength("a strength is one of the words free, steady, outcome, truth")
    if strength == "free":
        return difference(one, other) is None
    if strength == "steady":
        return steady_difference(one, other) is None
    if strength == "outcome":
        return outcome_difference(one, other) is None
    return truth_difference(one, other) is None


def strongest(one, other):
    """Return the strongest strength in which the two conditions are equal, or the word none."""
    for strength in STRENGTHS:
        if equal(one, other, strength):
            return strength
    return "none"


def difference(one, other):
    """Return None for free equal conditions, otherwise a list of answers, as few as possible, that tells them apart."""
    parting = _parting(one, other)
    return None if parting is None else parting[0]


def _parting(one, other):
    """Return None for free equal conditions, otherwise the fewest answers after which they do not do the same.

    With these stand the targets, in the codes of the two conditions, to which the answers lead.
    """
    both_names(one, other)
    rows = code(one)
    other_rows = code(other)
    met = {(0, 0): True}
    waiting = deque([([], 0, 0)])
    while waiting:
        answers, target, other_target = waiting.popleft()
        if _shown(rows, target) != _shown(other_rows, other_target):
            return answers, target, other_target
        if isinstance(target, int):
            for answer, at in (("yes", 1), ("no", 2)):
                pair = (rows[target][at], other_rows[other_target][at])
                if pair not in met:
                    met[pair] = True
                    waiting.append(([*answers, answer], *pair))
    return None


def _shown(rows, target):
    """Return what is seen of an evaluation at a target: the result, or a tuple of the name that is asked."""
    # A tuple, since a name may be yes or no, too.
    return rows[target][:1] if isinstance(target, int) else target


def steady_difference(one, other):
    """Return None for steady equal conditions, otherwise an assignment of all names that tells their runs apart."""
    for assignment, told, other_told in both_runs(one, other):
        if told != other_told:
            return assignment
    return None


def truth_difference(one, other):
    """Return None for truth equal conditions, otherwise an assignment of all names that tells their ends apart."""
    for assignment, told, other_told in both_runs(one, other):
        if told[1] != other_told[1]:
            return assignment
    return None


def memory_run(condition, memory):
    """Return the names that are asked and the end, if the answers depend on all that was asked."""
    check_condition(condition)
    _check_memory(memory)
    answers = {before: answer for before, answer in memory}
    rows = rows_of(condition)
    asked = ()
    target = 0
    while isinstance(target, int):
        name, yes, no = rows[target]
        asked = (*asked, name)
        if asked not in answers:
            return asked, "open"
        target = yes if answers[asked] == "yes" else no
    return asked, target


def _check_memory(value):
    """Raise InvalidAnswers if value is no memory."""
    if not _is_memory(value):
        raise InvalidAnswers("a memory is a list of at most 200 different pairs of 1 to 60 names and of yes or no")


def _is_memory(value):
    """Return whether value is a memory."""
    if not isinstance(value, list) or len(value) > MOST_PAIRS or not all([_is_memory_pair(pair) for pair in value]):
        return False
    return len({asked for asked, _ in value}) == len(value)


def _is_memory_pair(value):
    """Return whether value is a pair of a tuple of names and of a result."""
    if not isinstance(value, tuple) or len(value) != 2 or value[1] not in RESULTS:
        return False
    asked = value[0]
    return isinstance(asked, tuple) and 1 <= len(asked) <= MOST_TESTS and all([is_name(name) for name in asked])


def memory_difference(one, other):
    """Return None for free equal conditions, otherwise a memory with which one ends with yes, the other with no."""
    parting = _parting(one, other)
    if parting is None:
        return None
    answers, target, other_target = parting
    asked = walked(code(one), answers)[0][:len(answers)]
    same = [(asked[:number + 1], answer) for number, answer in enumerate(answers)]
    # From here on no asking is the same for both, so that each of them may be led to an end of its own.
    end, other_end = ("no", "yes") if target == "no" or other_target == "yes" else ("yes", "no")
    return [*same, *_pairs(code(one), target, asked, end), *_pairs(code(other), other_target, asked, other_end)]


def _pairs(rows, target, asked, end):
    """Return the pairs of a memory that lead from the target to this end, if these names were asked before.

    In the code of a condition no row has the same result twice, so that each row leads to both results.
    """
    found = []
    while isinstance(target, int):
        name, yes, no = rows[target]
        asked = (*asked, name)
        answer = "yes" if yes == end or isinstance(yes, int) else "no"
        found.append((asked, answer))
        target = yes if answer == "yes" else no
    return found
