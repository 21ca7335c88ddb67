"""The errors that the package raises."""


class LeftFirstError(ValueError):
    """The base of all errors of this package."""


class InvalidCondition(LeftFirstError):
    """A value that is no condition."""


class InvalidName(LeftFirstError):
    """A value that is no name."""


class InvalidNames(LeftFirstError):
    """A value that is no ascending tuple of 1 to 8 different names."""


class InvalidAnswers(LeftFirstError):
    """A value that is no list of answers, no answer, or no memory, where one is required."""


class InvalidAssignment(LeftFirstError):
    """A value that is no assignment."""


class InvalidStrength(LeftFirstError):
    """A value that is none of the four strengths of equality."""


class InvalidCode(LeftFirstError):
    """A value that is no code."""


class InvalidKind(LeftFirstError):
    """A value that is neither "and" nor "or"."""


class InvalidMachine(LeftFirstError):
    """A value that is no machine."""


class InvalidNumber(LeftFirstError):
    """A value that is no integer, or one out of the range that is required."""


class InvalidText(LeftFirstError):
    """A value that is not the text of a condition."""


class TooLarge(LeftFirstError):
    """Arguments that have the required form, but lead beyond a bound."""


class HasIf(LeftFirstError):
    """A condition with an `if`, where only one without is possible."""


class Missing(LeftFirstError):
    """A name that has no answer, or that is not among the names that were passed."""

    # The name may be of any kind, so no text is made of it here.
    def __init__(self, name=None):
        self.name = name
