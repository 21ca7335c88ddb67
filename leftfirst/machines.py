"""Machines: their form, runs of machines, the shortest machine of a code, and the code of a machine."""

from leftfirst.codes import bounded, check_code, is_target, tidied
from leftfirst.conditions import MOST_NAMES, is_name
from leftfirst.errors import InvalidMachine
from leftfirst.running import RESULTS, check_answers, walked

MOST_INSTRUCTIONS = 120


def is_machine(value):
    """Return whether value, any value, is a machine."""
    if not isinstance(value, tuple) or not 1 <= len(value) <= MOST_INSTRUCTIONS:
        return False
    if not all([_is_instruction(part, len(value)) for part in value]) or value[-1][0] != "goto":
        return False
    if len({part[1] for part in value if part[0] == "jump"}) > MOST_NAMES:
        return False
    # What asks nothing counts here, too: no instruction at all leads back to itself.
    return tidied(_rows(value)) is not None


def _is_instruction(value, number):
    """Return whether value is an instruction of a machine that has so many of them."""
    if not isinstance(value, tuple):
        return False
    if len(value) == 2:
        return value[0] == "goto" and is_target(value[1], number)
    if len(value) != 4:
        return False
    word, name, answer, target = value
    return word == "jump" and is_name(name) and answer in RESULTS and is_target(target, number)


def _check_machine(value):
    """Raise InvalidMachine if value is no machine."""
    if not is_machine(value):
        raise InvalidMachine("this is no machine, or one beyond 120 instructions or 8 names")


def _rows(machine):
    """Return a row for each instruction. That of a goto has no name, and its target twice."""
    return [_row(instruction, at + 1) for at, instruction in enumerate(machine)]


def _row(instruction, behind):
    """Return the row of an instruction that stands before the one with this number."""
    if instruction[0] == "goto":
        return (None, instruction[1], instruction[1])
    _, name, answer, target = instruction
    return (name, target, behind) if answer == "yes" else (name, behind, target)


def _rows_without_gotos(machine):
    """Return the rows of the instructions, of which none leads to that of a goto, and where the machine begins."""
    rows = _rows(machine)
    found = [(name, _behind_gotos(rows, yes), _behind_gotos(rows, no)) for name, yes, no in rows]
    return found, _behind_gotos(rows, 0)


def _behind_gotos(rows, target):
    """Return the target to which this one leads before anything is asked."""
    while isinstance(target, int) and rows[target][0] is None:
        target = rows[target][1]
    return target


def run_machine(machine, answers):
    """Return the names that the machine asks and the end, if the askings get these answers in their order."""
    _check_machine(machine)
    check_answers(answers)
    rows, start = _rows_without_gotos(machine)
    return walked(rows, answers, start)


def code_of(machine):
    """Return the code that asks and ends as the machine does, or None if it asks nothing."""
    _check_machine(machine)
    rows, start = _rows_without_gotos(machine)
    return None if isinstance(start, str) else bounded(tidied(rows, start))


def instructions(code):
    """Return the number of instructions of the shortest machines that ask and end as the code does."""
    check_code(code)
    return 2 * len(code) - len(_followers(code))


def machine(code):
    """Return a machine with the fewest instructions that asks and ends as the code does."""
    check_code(code)
    followers = _followers(code)
    places = _places(code, followers)
    found = []
    for at in places:
        name, yes, no = code[at]
        if at in followers and followers[at] == yes:
            found.append(("jump", name, "no", places.get(no, no)))
        else:
            found.append(("jump", name, "yes", places.get(yes, yes)))
        if at not in followers:
            found.append(("goto", places.get(no, no)))
    return tuple(found)


def _places(code, followers):
    """Return the dict of the rows and of the numbers of their jumps, in the order of these numbers."""
    taken = list(followers.values())
    places = {}
    number = 0
    # No row leads to row 0, so that the machine begins with it.
    for first in [at for at in range(len(code)) if at not in taken]:
        at = first
        places[at] = number
        while at in followers:
            at = followers[at]
            number += 1
            places[at] = number
        # Behind the jump of the last one stands a goto.
        number += 2
    return places


def _followers(code):
    """Return a dict of as many rows as possible, to each of which belongs another one of its targets.

    The jump of this target may stand behind that of the row, so that no goto is needed.
    """
    found = {}
    for at in range(len(code)):
        _follow(code, at, found, {})
    return {row: target for target, row in found.items()}


def _follow(code, at, found, tried):
    """Return whether a target that is a row can be given to this row, and give it one.

    Found is the dict of the targets that are given already and of their rows; these may get another one instead.
    """
    for target in code[at][1:]:
        if isinstance(target, int) and target not in tried:
            tried[target] = True
            if target not in found or _follow(code, found[target], found, tried):
                found[target] = at
                return True
    return False
