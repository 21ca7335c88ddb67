"""The shapes of codes: the parts that they reduce to, and the conditions and the codes that they are made of."""

from leftfirst.codes import check_code, check_kind, cut, met, tidied
from leftfirst.forms import basic_form, flattened

# A part is a tuple of a condition and of the targets to which this leads with yes and with no: the numbers of the rows
# with which other parts begin, or results. The parts that are left of a code stand in a dict by such numbers.


def parts(code):
    """Return the number of parts that both sorts of steps leave of the code."""
    check_code(code)
    return len(_reduced(code, True))


def plain_parts(code):
    """Return the number of parts that the steps of the first sort alone leave of the code."""
    check_code(code)
    return len(_reduced(code, False))


def shaped(code):
    """Return a condition with as many tests as the code has rows, whose code this is, or None."""
    check_code(code)
    return _condition_of_parts(_reduced(code, True))


def plain(code):
    """Return the normal form whose code this is, or None."""
    check_code(code)
    return _condition_of_parts(_reduced(code, False))


def _condition_of_parts(left):
    """Return the condition, with nots before tests only, of the parts that are left, or None if these are too many."""
    condition, yes, no = left[0]
    if len(left) > 1 or yes == no:
        return None
    return flattened(condition, yes == "no")


def _reduced(code, with_ifs):
    """Return the dict of the parts that are left of the code, by steps of both sorts or of the first sort alone."""
    left = {at: (("test", name), yes, no) for at, (name, yes, no) in enumerate(code)}
    step = _step(left, with_ifs)
    while step is not None:
        at, part, inner = step
        left[at] = part
        for row in inner:
            del left[row]
        step = _step(left, with_ifs)
    return left


def _step(left, with_ifs):
    """Return a step that is possible, or None: the row of u, the part that it becomes, and the rows of those in it."""
    sources = {}
    for at, (_, yes, no) in left.items():
        for target in (yes, no):
            sources.setdefault(target, []).append(at)
    for at in left:
        # A target to which u leads with yes and with no is not among these.
        alone = [target for target in left[at][1:] if isinstance(target, int) and sources[target] == [at]]
        for target in alone:
            part = _part_of_two(left[at], left[target], target)
            if part is not None:
                return at, part, [target]
        if with_ifs and len(alone) == 2:
            part = _part_of_three(left[at], left[alone[0]], left[alone[1]])
            if part is not None:
                return at, part, alone
    return None


def _part_of_two(outer, inner, at):
    """Return the part that two parts become by the first sort of steps, or None; the inner one begins with this row."""
    asked, yes, no = outer
    then, inner_yes, inner_no = inner
    if no == at:
        asked, no = flattened(asked, True), yes
    # Now the outer condition leads to the inner one with yes.
    if inner_yes == inner_no or no not in (inner_yes, inner_no):
        return None
    condition = ("and", asked, then) if no == inner_no else ("or", flattened(asked, True), then)
    return condition, inner_yes, inner_no


def _part_of_three(outer, chosen, other):
    """Return the part that three parts become by the second sort of steps, or None."""
    then, yes, no = chosen
    otherwise, other_yes, other_no = other
    if yes == no or (yes, no) not in ((other_yes, other_no), (other_no, other_yes)):
        return None
    return ("if", outer[0], then, flattened(otherwise, yes != other_yes)), yes, no


def factor_codes(code, kind):
    """Return the longest list of codes of conditions whose joined code this is, or None if it has no condition."""
    check_code(code)
    check_kind(kind)
    if not _has_condition(code):
        return None
    end = "yes" if kind == "and" else "no"
    starts = [at for at in range(1, len(code)) if _is_factor_start(code, at, end)]
    # Every way to a later one of them leads through the earlier ones, so they stand in the order of the factors.
    before = [tidied(cut(code, behind, end), start) for start, behind in zip([0, *starts], starts)]
    return [*before, tidied(code, starts[-1] if starts else 0)]


def _has_condition(code):
    """Return whether the code is that of a condition, of any size."""
    return all([isinstance(yes, int) or yes != no for _, yes, no in code])


def _is_factor_start(code, at, end):
    """Return whether every way through the code to this end leads through this row, and a condition is before it."""
    return end not in met(code, 0, at) and _has_condition(cut(code, at, end))


def condition_of(code):
    """Return the basic form whose code this is, or None if there is none."""
    check_code(code)
    return basic_form(code) if _has_condition(code) else None
