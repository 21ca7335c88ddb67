"""Objects: conditions with operators, and what asks the tests of conditions and counts."""

from leftfirst.codes import code
from leftfirst.conditions import MOST_NAMES, check_condition, check_name, is_condition, names, tests
from leftfirst.errors import InvalidAnswers, InvalidCondition, TooLarge
from leftfirst.running import RESULTS, check_assignment, repeatedly_walked, rows_of, run
from leftfirst.texts import read, write


class Condition:
    """A condition."""

    def __init__(self, condition):
        check_condition(condition)
        self._condition = condition

    @classmethod
    def of_text(cls, text):
        """Return the Condition that has this text."""
        return cls(read(text))

    @property
    def condition(self):
        """The condition, a tuple."""
        return self._condition

    @property
    def text(self):
        """The text of the condition."""
        return write(self._condition)

    @property
    def code(self):
        """The code of the condition."""
        return code(self._condition)

    def __and__(self, other):
        return _combined("and", self, other)

    def __or__(self, other):
        return _combined("or", self, other)

    def __invert__(self):
        return _made(("not", self._condition))

    def __call__(self, answers):
        """Return what run returns with these answers."""
        return run(self._condition, answers)

    def __eq__(self, other):
        # Conditions that are free equal have the same names, so there is no need to count these.
        return isinstance(other, Condition) and code(self._condition) == code(other.condition)

    def __len__(self):
        return len(tests(self._condition))

    def __contains__(self, name):
        return name in names(self._condition)


def _combined(kind, one, other):
    """Return the Condition of this kind of a Condition and of the other one, if this is one."""
    if not isinstance(other, Condition):
        raise InvalidCondition("only a Condition can stand beside a Condition")
    return _made((kind, one.condition, other.condition))


def _made(value):
    """Return the Condition of what is a condition, if it is not too large."""
    if not is_condition(value):
        raise TooLarge("the outcome goes beyond 60 tests, 200 nots, 8 names or a depth of 80")
    return Condition(value)


class Asker:
    """What evaluates conditions with the answers of an assignment, and counts how often each name is asked."""

    def __init__(self, assignment):
        check_assignment(assignment)
        self._assignment = assignment
        self._asked = []

    @property
    def assignment(self):
        """The present assignment."""
        return self._assignment

    @property
    def asked(self):
        """A new list of all names that were asked, in their order."""
        return list(self._asked)

    def ask(self, condition):
        """Evaluate a condition, and return the end."""
        check_condition(condition)
        needed, end = repeatedly_walked(rows_of(condition), self._assignment)
        # Only here, where no name can be missing any more, is anything counted.
        self._count(needed)
        return end

    def _count(self, needed):
        """Count the askings of these names."""
        self._asked.extend(needed)

    def times(self, name):
        """Return how often the name was asked."""
        check_name(name)
        return self._asked.count(name)

    def __len__(self):
        return len(self._asked)

    def change(self, name, answer):
        """Set the answer of a name from now on."""
        check_name(name)
        if answer not in RESULTS:
            raise InvalidAnswers("the answer of a name is yes or no")
        answers = dict(self._assignment)
        answers[name] = answer
        if len(answers) > MOST_NAMES:
            raise TooLarge("the assignment would have more than 8 names")
        self._assignment = tuple(sorted(list(answers.items())))


class SteadyAsker(Asker):
    """An Asker that asks a name at most once until its answer is changed, also in later conditions."""

    def __init__(self, assignment):
        super().__init__(assignment)
        self._known = {}

    def _count(self, needed):
        """Count the askings of those of these names whose answers are not known yet."""
        for name in needed:
            if name not in self._known:
                self._known[name] = True
                self._asked.append(name)

    def change(self, name, answer):
        """Set the answer of a name from now on, and forget that it was asked."""
        super().change(name, answer)
        self._known.pop(name, None)

    def forget(self):
        """Forget for all names that they were asked."""
        self._known = {}
