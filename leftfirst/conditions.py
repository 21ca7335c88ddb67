"""Conditions: their form, their tests and names, and conditions that are made of them."""

from leftfirst.errors import InvalidCondition, InvalidName, InvalidNames, TooLarge

MOST_TESTS = 60
MOST_NOTS = 200
MOST_NAMES = 8
MOST_DEEP = 80
LONGEST_NAME = 8
WORDS = ("and", "or", "not", "if", "else")
DUAL_KINDS = {"not": "not", "and": "or", "or": "and"}


def is_name(value):
    """Return whether value, any value, is a name."""
    if not isinstance(value, str) or not 1 <= len(value) <= LONGEST_NAME or value in WORDS:
        return False
    return all(["a" <= sign <= "z" for sign in value])


def check_name(value):
    """Raise InvalidName if value is no name."""
    if not is_name(value):
        raise InvalidName("a name has 1 to 8 letters from a to z and is none of the words and, or, not, if, else")


def are_names(value):
    """Return whether value is a tuple of at most 8 names in strictly ascending order."""
    if not isinstance(value, tuple) or len(value) > MOST_NAMES or not all([is_name(name) for name in value]):
        return False
    return list(value) == sorted(set(value))


def check_names(value):
    """Raise InvalidNames if value is no ascending tuple of 1 to 8 different names."""
    if not are_names(value) or len(value) == 0:
        raise InvalidNames("an ascending tuple of 1 to 8 different names is required")


def is_condition(value):
    """Return whether value, any value, is a condition."""
    waiting = [(value, 1)]
    found = []
    nots = 0
    # The bounds are checked on the way, so that no value, however large or deep, is walked through far beyond them.
    while waiting:
        part, depth = waiting.pop()
        if depth > MOST_DEEP or not _is_part(part):
            return False
        if part[0] == "test":
            found.append(part[1])
        else:
            waiting.extend([(member, depth + 1) for member in part[1:]])
        if part[0] == "not":
            nots += 1
        if len(found) > MOST_TESTS or nots > MOST_NOTS:
            return False
    return len(set(found)) <= MOST_NAMES


def _is_part(value):
    """Return whether value is a test, or a tuple that is a condition if its members are."""
    if not isinstance(value, tuple) or len(value) < 2:
        return False
    kind = value[0]
    if kind == "test":
        return len(value) == 2 and is_name(value[1])
    if kind == "not":
        return len(value) == 2
    if kind == "if":
        return len(value) == 4
    return kind in ("and", "or") and len(value) >= 3


def check_condition(value):
    """Raise InvalidCondition if value is no condition."""
    if not is_condition(value):
        raise InvalidCondition("this is no condition, or one beyond 60 tests, 200 nots, 8 names or a depth of 80")


def tests(condition):
    """Return the list of the names of the tests, from left to right."""
    check_condition(condition)
    found = []
    waiting = [condition]
    while waiting:
        part = waiting.pop()
        if part[0] == "test":
            found.append(part[1])
        else:
            # From the last member to the first one: what is put there last is taken first.
            waiting.extend(part[:0:-1])
    return found


def names(condition):
    """Return the ascending tuple of the different names."""
    return tuple(sorted(set(tests(condition))))


def both_names(one, other):
    """Return the ascending list of the names of the two conditions, if these are few enough together."""
    found = sorted(set([*names(one), *names(other)]))
    if len(found) > MOST_NAMES:
        raise TooLarge("the two conditions have more than 8 names together")
    return found


def replaced(condition, name, other):
    """Return the condition in which the condition other stands for every test of this name."""
    check_condition(condition)
    check_name(name)
    check_condition(other)
    result = _replaced(condition, name, other)
    if not is_condition(result):
        raise TooLarge("the outcome goes beyond 60 tests, 200 nots, 8 names or a depth of 80")
    return result


def _replaced(condition, name, other):
    """Return what replaced returns, of any size."""
    if condition[0] == "test":
        return other if condition[1] == name else condition
    members = [_replaced(member, name, other) for member in condition[1:]]
    return (condition[0], *members)


def dual(condition):
    """Return the condition with and and or exchanged, and with x and y of every if exchanged."""
    check_condition(condition)
    return _dual(condition)


def _dual(condition):
    """Return the dual of what is known to be a condition."""
    kind = condition[0]
    if kind == "test":
        return condition
    members = [_dual(member) for member in condition[1:]]
    if kind == "if":
        asked, chosen, otherwise = members
        return ("if", asked, otherwise, chosen)
    return (DUAL_KINDS[kind], *members)
