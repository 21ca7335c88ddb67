"""How many normal forms and how many conditions there are, and which normal forms these are."""

from leftfirst.conditions import DUAL_KINDS, MOST_NAMES, MOST_TESTS, check_names
from leftfirst.steady import check_number
from leftfirst.texts import write

MOST_LISTED = 3
MOST_NEEDED = 6


def count(number, size):
    """Return how many normal forms with so many tests there are, with names out of so many."""
    check_number(number, 1, MOST_TESTS)
    check_number(size, 1, MOST_NAMES)
    # The numbers of ways to put ands and ors between so many tests, none of them for none.
    shapes = [0, 1]
    for last in range(1, number):
        shapes.append(shapes[last] + sum([shapes[k] * shapes[last + 1 - k] for k in range(1, last + 1)]))
    total = shapes[number]
    for _ in range(number):
        total = total * 2 * size
    return total


def normals(number, names):
    """Iterate over the normal forms with so many tests and with these names, in ascending order of their texts."""
    check_number(number, 1, MOST_LISTED)
    check_names(names)
    forms = [*_members("and", number, names), *_forms("and", number, names)]
    found = {write(form): form for form in forms}
    for text in sorted(list(found)):
        yield found[text]


def _forms(kind, number, names):
    """Return the list of the normal forms of this kind, and or or, with so many tests."""
    return [
        (kind, first, *rest)
        for size in range(1, number)
        for first in _members(kind, size, names)
        for rest in _rests(kind, number - size, names)
    ]


def _members(kind, number, names):
    """Return the list of the normal forms with so many tests that may stand in an and or an or of this kind."""
    if number == 1:
        return [form for name in names for form in (("test", name), ("not", ("test", name)))]
    return _forms(DUAL_KINDS[kind], number, names)


def _rests(kind, number, names):
    """Return the list of the tuples of one or more such forms with so many tests together."""
    return [*[(form,) for form in _members(kind, number, names)], *[form[1:] for form in _forms(kind, number, names)]]


def ways(number, size):
    """Return how many conditions, no two of them free equal, need at most so many answers, with so many names."""
    check_number(number, 0, MOST_NEEDED)
    check_number(size, 1, MOST_NAMES)
    total = 2
    for _ in range(number):
        total = 2 + size * (total * total - 2)
    return total - 2
