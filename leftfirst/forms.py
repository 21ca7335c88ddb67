"""The forms of conditions: normal forms, their factors and roots, basic forms, and the rules that lead to these."""

from leftfirst.codes import check_kind, code
from leftfirst.conditions import DUAL_KINDS, MOST_TESTS, both_names, check_condition
from leftfirst.errors import HasIf, TooLarge


def normal(condition):
    """Return the normal form of the condition."""
    check_condition(condition)
    if _has_if(condition):
        raise HasIf("only a condition without if has a normal form")
    return flattened(condition, False)


def _has_if(condition):
    """Return whether there is an if in the condition."""
    kind = condition[0]
    return kind == "if" or kind != "test" and any([_has_if(member) for member in condition[1:]])


def flattened(condition, turned):
    """Return the condition, or not of it if it is turned, with nots before tests only.

    No and is directly in an and, and no or directly in an or. The tests stay as many, in the same order.
    """
    kind = condition[0]
    if kind == "test":
        return ("not", condition) if turned else condition
    if kind == "not":
        return flattened(condition[1], not turned)
    if kind == "if":
        _, asked, chosen, otherwise = condition
        return ("if", flattened(asked, False), flattened(chosen, turned), flattened(otherwise, turned))
    return _opened(DUAL_KINDS[kind] if turned else kind, [flattened(member, turned) for member in condition[1:]])


def _opened(kind, members):
    """Return the and or the or of these members, in which the members of a member of this kind take its place."""
    found = []
    for member in members:
        found.extend(_members(kind, member))
    return (kind, *found)


def _members(kind, condition):
    """Return the list of the members of the condition if it is of this kind, otherwise of the condition alone."""
    return list(condition[1:]) if condition[0] == kind else [condition]


def factors(condition, kind):
    """Return the longest list of normal forms whose and or or is free equal to the condition."""
    check_condition(condition)
    check_kind(kind)
    return _members(kind, normal(condition))


def root(condition, kind):
    """Return the normal form to which the condition is free equal if it stands so many times, and this number."""
    found = factors(condition, kind)
    number = len(found)
    while found[:len(found) // number] * number != found:
        number -= 1
    return (_together(kind, found[:len(found) // number]), number)


def _together(kind, members):
    """Return the and or the or of these members, or the only one."""
    return members[0] if len(members) == 1 else (kind, *members)


def basic(condition):
    """Return the basic form of the condition."""
    return basic_form(code(condition))


def basic_form(rows):
    """Return the basic form whose code these rows are, no row of which has the same result twice."""
    number = 0
    waiting = [0]
    # Counted before it is built, since it may be far too large: a row stands in it as often as ways lead to the row.
    while waiting:
        _, yes, no = rows[waiting.pop()]
        number += 1
        if number > MOST_TESTS:
            raise TooLarge("the basic form has more than 60 tests")
        waiting.extend([target for target in (yes, no) if isinstance(target, int)])
    return _basic(rows, 0)


def _basic(rows, at):
    """Return the basic form for the rows from this one on."""
    name, yes, no = rows[at]
    test = ("test", name)
    if isinstance(yes, int) and isinstance(no, int):
        return ("if", test, _basic(rows, yes), _basic(rows, no))
    if isinstance(yes, int):
        kind, asked, then = ("and", test, yes) if no == "no" else ("or", ("not", test), yes)
    elif isinstance(no, int):
        kind, asked, then = ("or", test, no) if yes == "yes" else ("and", ("not", test), no)
    else:
        return test if yes == "yes" else ("not", test)
    return _opened(kind, [asked, _basic(rows, then)])


def is_step(one, other):
    """Return whether one rule, used at one place and in either direction, makes the condition other of one."""
    check_condition(one)
    check_condition(other)
    return _makes(one, other) or _makes(other, one)


def _makes(one, other):
    """Return whether one rule, used at one place from left to right, makes the condition other of one."""
    if other in _made(one):
        return True
    if one[0] == "test" or one[0] != other[0] or len(one) != len(other):
        return False
    changed = [at for at in range(1, len(one)) if one[at] != other[at]]
    return len(changed) == 1 and _makes(one[changed[0]], other[changed[0]])


def _made(condition):
    """Return the list of what the rules, from left to right, make of the condition as a whole."""
    kind = condition[0]
    if kind == "test":
        return []
    if kind == "not":
        return [*_made_of_two_nots(condition), *_made_of_not(condition)]
    if kind == "if":
        return _made_of_if(condition)
    found = []
    for at in range(1, len(condition)):
        found.extend(_made_at(condition, at))
    return found


def _made_of_two_nots(condition):
    """Return the list of what the first part of rule 1 makes of the condition, which is that of not not."""
    return [condition[1][1]] if condition[0] == "not" and condition[1][0] == "not" else []


def _made_of_not(condition):
    """Return the list of what the rest of rule 1 makes of the condition."""
    if condition[0] != "not" or condition[1][0] in ("test", "not"):
        return []
    inner = condition[1]
    if inner[0] == "if":
        return [("if", inner[1], ("not", inner[2]), ("not", inner[3]))]
    return [(DUAL_KINDS[inner[0]], *[("not", member) for member in inner[1:]])]


def _made_of_if(condition):
    """Return the list of what rule 5 makes of an if."""
    _, asked, chosen, otherwise = condition
    kind = asked[0]
    if kind == "test":
        return []
    if kind == "not":
        return [("if", asked[1], otherwise, chosen)]
    if kind == "if":
        return [("if", asked[1], ("if", asked[2], chosen, otherwise), ("if", asked[3], chosen, otherwise))]
    later = ("if", _together(kind, asked[2:]), chosen, otherwise)
    return [("if", asked[1], later, otherwise) if kind == "and" else ("if", asked[1], chosen, later)]


def _made_at(condition, at):
    """Return the list of what rules 2, 3 and 4 make of an and or an or by what stands at this place of its tuple."""
    kind = condition[0]
    member = condition[at]
    behind = condition[at + 1:]
    if member[0] == kind:
        return [(*condition[:at], *member[1:], *behind)]
    if not behind or member[0] in ("test", "not"):
        return []
    if member[0] == "if":
        made = ("if", member[1], (kind, member[2], *behind), (kind, member[3], *behind))
    else:
        rest = (kind, _together(member[0], member[2:]), *behind)
        then = _together(kind, behind)
        made = ("if", member[1], then, rest) if kind == "and" else ("if", member[1], rest, then)
    return [_together(kind, [*condition[1:at], made])]


def way(one, other):
    """Return a list of conditions from one to other, each of which makes the next one in one step, or None."""
    both_names(one, other)
    if code(one) != code(other):
        return None
    meeting = basic(one)
    found = _way_down(one)
    back = _way_down(other)
    # Both end with the basic form, and may go the same way from an earlier condition on.
    while found and back and found[-1] == back[-1]:
        meeting = found.pop()
        back.pop()
    return [*found, meeting, *back[::-1]]


def _way_down(condition):
    """Return the list of conditions from this one to its basic form, each of which makes the next one in one step."""
    found = []
    made = condition
    while made is not None:
        found.append(made)
        made = _next(made)
    return found


def _next(condition):
    """Return what one rule, from left to right, makes of the condition, or None for a basic form.

    The order of the rules is the one by which there never are too many nots, and no condition is too deep.
    """
    made = _used(_made_of_two_nots, condition)
    if made is None:
        made = _used(_made_of_not, condition)
    if made is None:
        made = _used(_made, condition)
    return made


def _used(rule, condition):
    """Return the condition in which this rule is used at the first place where it can be used, or None."""
    found = rule(condition)
    if found:
        return found[0]
    if condition[0] != "test":
        for at in range(1, len(condition)):
            made = _used(rule, condition[at])
            if made is not None:
                return (*condition[:at], made, *condition[at + 1:])
    return None
