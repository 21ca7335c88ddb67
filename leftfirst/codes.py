"""Codes: their form, the code of a condition, runs of codes, and codes that are made of codes."""

from leftfirst.conditions import MOST_NAMES, check_condition, is_name
from leftfirst.errors import InvalidCode, InvalidKind, TooLarge
from leftfirst.running import RESULTS, check_answers, rows_of, walked

MOST_ROWS = 60
KINDS = ("and", "or")


def code(condition):
    """Return the code of the condition."""
    check_condition(condition)
    return tidied(rows_of(condition))


def is_code(value):
    """Return whether value, any value, is a code."""
    if not isinstance(value, tuple) or not value:
        return False
    if not all([_is_row(row, len(value)) for row in value]):
        return False
    return _fits(value) and tidied(value) == value


def _is_row(value, number):
    """Return whether value is a row of a code that has so many rows."""
    if not isinstance(value, tuple) or len(value) != 3:
        return False
    name, yes, no = value
    return is_name(name) and is_target(yes, number) and is_target(no, number)


def is_target(value, number):
    """Return whether value is a result or one of so many numbers from 0 on."""
    if isinstance(value, int) and not isinstance(value, bool):
        return 0 <= value < number
    return value in RESULTS


def check_code(value):
    """Raise InvalidCode if value is no code."""
    if not is_code(value):
        raise InvalidCode("this is no code, or one beyond 60 rows or 8 names")


def check_kind(value):
    """Raise InvalidKind if value is neither and nor or."""
    if value not in KINDS:
        raise InvalidKind("a kind is one of the words and, or")


def _fits(rows):
    """Return whether the rows have not too many rows or names for a code."""
    return len(rows) <= MOST_ROWS and len({row[0] for row in rows}) <= MOST_NAMES


def bounded(rows):
    """Return the rows, which have the form of a code, if they are few enough for one."""
    if not _fits(rows):
        raise TooLarge("the code would have more than 60 rows or more than 8 names")
    return rows


def tidied(rows, start=0):
    """Return the code, of any size, that asks and ends as the rows do from this one on.

    Equal rows become one, and rows that are not met fall away. Returns None if a row leads back to itself.
    """
    places = {"yes": "yes", "no": "no"}
    merged = {}
    left = list(range(len(rows)))
    # Rows are equal as soon as they are the same with the places of their targets, so these are placed before them.
    while left:
        ready = [at for at in left if rows[at][1] in places and rows[at][2] in places]
        if not ready:
            return None
        for at in ready:
            name, yes, no = rows[at]
            places[at] = merged.setdefault((name, places[yes], places[no]), len(merged))
        left = [at for at in left if at not in places]
    return _numbered(list(merged), places[start])


def _numbered(rows, start):
    """Return the rows that are met from this one on, in the order in which they are met first."""
    order = [at for at in met(rows, start) if isinstance(at, int)]
    places = {at: number for number, at in enumerate(order)}
    found = [rows[at] for at in order]
    return tuple([(name, places.get(yes, yes), places.get(no, no)) for name, yes, no in found])


def met(rows, start, avoided=None):
    """Return the list of the targets, rows and results, that are met from this one on, in the order of first meeting.

    No way goes to the avoided one.
    """
    found = {}
    waiting = [start]
    while waiting:
        target = waiting.pop()
        if target not in found and target != avoided:
            found[target] = True
            if isinstance(target, int):
                # The yes target is put there last, so that it is taken first.
                waiting.extend([rows[target][2], rows[target][1]])
    return list(found)


def cut(rows, at, end):
    """Return the list of the rows in which this result stands wherever they led to the row with this number."""
    return [(name, end if yes == at else yes, end if no == at else no) for name, yes, no in rows]


def run_code(code, answers):
    """Return the names that the code asks and the end, if the askings get these answers in their order."""
    check_code(code)
    check_answers(answers)
    return walked(code, answers)


def turned(code):
    """Return the code in which the results are exchanged."""
    check_code(code)
    return tuple(_moved(code, {"yes": "no", "no": "yes"}, 0))


def joined(kind, code, other):
    """Return the code that runs the first code and then, if this does not settle the and or the or, the other one."""
    check_kind(kind)
    check_code(code)
    check_code(other)
    behind = len(code)
    ends = {"yes": behind, "no": "no"} if kind == "and" else {"yes": "yes", "no": behind}
    return bounded(tidied([*_moved(code, ends, 0), *_moved(other, {"yes": "yes", "no": "no"}, behind)]))


def _moved(rows, ends, by):
    """Return the rows with these targets instead of the results, and with all other targets moved by so many."""
    return [(name, _moved_target(yes, ends, by), _moved_target(no, ends, by)) for name, yes, no in rows]


def _moved_target(target, ends, by):
    """Return what becomes of a target in moved rows."""
    return target + by if isinstance(target, int) else ends[target]
