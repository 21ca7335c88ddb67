"""The texts of conditions: writing and reading them."""

from leftfirst.conditions import check_condition, is_condition
from leftfirst.errors import InvalidText

# Which kinds of conditions stand without parentheses in a condition of each kind. (The last place of an if is ANY.)
BARE = {
    "not": ("test", "not"),
    "and": ("test", "not"),
    "or": ("test", "not", "and"),
    "if": ("test", "not", "and", "or"),
}
ANY = ("test", "not", "and", "or", "if")


def write(condition):
    """Return the text of the condition."""
    check_condition(condition)
    return _written(condition, ANY)


def _written(condition, bare):
    """Return the text of the condition at a place where these kinds stand without parentheses."""
    kind = condition[0]
    if kind == "test":
        text = condition[1]
    elif kind == "not":
        text = "not " + _written(condition[1], BARE["not"])
    elif kind == "if":
        asked = _written(condition[1], BARE["if"])
        chosen = _written(condition[2], BARE["if"])
        text = f"{chosen} if {asked} else {_written(condition[3], ANY)}"
    else:
        members = [_written(member, BARE[kind]) for member in condition[1:]]
        text = f" {kind} ".join(members)
    return text if kind in bare else f"({text})"


def read(text):
    """Return the condition that has this text."""
    if not isinstance(text, str):
        raise InvalidText("a text is a string")
    condition = _parsed(text.replace("(", " ( ").replace(")", " ) ").split())
    # Parsing is lenient about blanks, parentheses and words: what is accepted is decided here alone.
    if not is_condition(condition) or write(condition) != text:
        raise InvalidText("this is not the text of a condition")
    return condition


def _parsed(words):
    """Return what the words and parentheses stand for, which may be too large or have names that are none."""
    # Without recursion, so that no text is too deep: each parenthesis that closes makes one item of a group.
    outer = []
    items = []
    for word in words:
        if word == "(":
            outer.append(items)
            items = []
        elif word == ")":
            if not outer:
                raise InvalidText("a parenthesis is closed that was not opened")
            group = _parsed_if(items)
            items = outer.pop()
            items.append(group)
        else:
            items.append(word)
    if outer:
        raise InvalidText("a parenthesis is not closed")
    return _parsed_if(items)


def _parsed_if(items):
    """Return what the items, words and groups that are parsed already, stand for."""
    *choices, last = _divided(items, "else")
    condition = _parsed_or(last)
    for choice in reversed(choices):
        sides = _divided(choice, "if")
        if len(sides) != 2:
            raise InvalidText("to each else belongs one if before it")
        condition = ("if", _parsed_or(sides[1]), _parsed_or(sides[0]), condition)
    return condition


def _parsed_or(items):
    """Return what the items stand for if there is no if among them."""
    members = [_parsed_and(part) for part in _divided(items, "or")]
    return members[0] if len(members) == 1 else ("or", *members)


def _parsed_and(items):
    """Return what the items stand for if there is no if and no or among them."""
    members = [_parsed_not(part) for part in _divided(items, "and")]
    return members[0] if len(members) == 1 else ("and", *members)


def _parsed_not(items):
    """Return what the items stand for if these are a word or a group with nots before it."""
    if not items:
        raise InvalidText("a test is missing")
    *nots, last = items
    condition = ("test", last) if isinstance(last, str) else last
    for word in nots:
        if word != "not":
            raise InvalidText("two words stand side by side that do not belong together")
        condition = ("not", condition)
    return condition


def _divided(items, word):
    """Return the list of the lists of items before, between and after those that are this word."""
    parts = [[]]
    for item in items:
        if item == word:
            parts.append([])
        else:
            parts[-1].append(item)
    return parts
