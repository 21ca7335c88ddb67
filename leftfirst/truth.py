"""Names that do not fail and keep their answers: tables of the ends, and the fewest askings."""

from leftfirst.conditions import check_condition, check_names, tests
from leftfirst.errors import Missing, TooLarge
from leftfirst.running import assignments, both_runs, rows_of, steadily_walked
from leftfirst.steady import steady_tree, tree_code

MOST_SEARCHED = 6


def table(condition, names):
    """Return the list of the ends for all assignments of these names, in ascending order of the assignments."""
    check_condition(condition)
    check_names(names)
    for name in _own_names(condition):
        if name not in names:
            raise Missing(name)
    rows = rows_of(condition)
    return [steadily_walked(rows, assignment)[1] for assignment in assignments(names)]


def _own_names(condition):
    """Return the ascending list of the names of the condition."""
    return sorted(set(tests(condition)))


def implies(one, other):
    """Return whether the other condition ends with yes for every assignment for which the first one does."""
    return all([told[1] == "no" or other_told[1] == "yes" for _, told, other_told in both_runs(one, other)])


def askings(condition):
    """Return the greatest number of names that steady_run asks for any assignment."""
    return _depth(steady_tree(condition))


def _depth(tree):
    """Return the greatest number of names that are asked on any way through the steady tree."""
    return 0 if isinstance(tree, str) else 1 + max(_depth(tree[1]), _depth(tree[2]))


def fewest_askings(condition):
    """Return the least askings of all conditions that are truth equal to this one."""
    return _depth(_cheapest_tree(condition))


def cheapest(condition):
    """Return a steady code that ends as the condition does for all assignments, with the fewest askings."""
    return tree_code(_cheapest_tree(condition))


def _cheapest_tree(condition):
    """Return a steady tree that asks a name and ends as the condition does, with the fewest askings."""
    own = tuple(_own_names(condition))
    if len(own) > MOST_SEARCHED:
        raise TooLarge("the fewest askings are found for at most 6 names")
    _, tree = _least(tuple(table(condition, own)), own, {})
    # A condition asks at least one name.
    return (own[0], tree, tree) if isinstance(tree, str) else tree


def _least(ends, names, known):
    """Return the fewest askings that lead to these ends of all assignments of the names, and a tree with so many.

    What was found for fewer names is kept in known.
    """
    if len(set(ends)) == 1:
        return 0, ends[0]
    if (ends, names) not in known:
        choices = [_choice(ends, names, at, known) for at in range(len(names))]
        known[(ends, names)] = min(choices, key=lambda choice: choice[0])
    return known[(ends, names)]


def _choice(ends, names, at, known):
    """Return the same if the name at this place is asked first."""
    # The answer to this name changes after so many assignments.
    several = len(ends) // 2
    for _ in range(at):
        several = several // 2
    rest = (*names[:at], *names[at + 1:])
    no_askings, no = _least(tuple([end for k, end in enumerate(ends) if k // several & 1 == 0]), rest, known)
    yes_askings, yes = _least(tuple([end for k, end in enumerate(ends) if k // several & 1 == 1]), rest, known)
    return 1 + max(yes_askings, no_askings), (names[at], yes, no)
