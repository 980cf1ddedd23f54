"""The errors that the package raises."""


class TypingError(ValueError):
    """Any error of the package."""


class BadRoom(TypingError):
    """What should be a room, or make one, does not."""


class BadType(TypingError):
    """What should be a type is none."""


class BadWords(TypingError):
    """What should be a list of words and signs is none, or is too long."""


class BadText(TypingError):
    """A text does not fit, from this line and column on."""

    def __init__(self, line, column):
        super().__init__(f"does not fit at line {line}, column {column}")
        self.line = line
        self.column = column


class Dead(TypingError):
    """Words are no beginning of a right text, from the word at this place on."""

    def __init__(self, place):
        super().__init__(f"no right text begins so, up to place {place}")
        self.place = place


class NotWhole(TypingError):
    """Words are not such a whole text as is asked for."""

    def __init__(self, place):
        super().__init__(f"not such a whole text, at place {place}")
        self.place = place


class BadEdit(TypingError):
    """What should be an edit is none, or does not fit the words."""


class BadNumber(TypingError):
    """A number is none of those that can be asked for."""


class BadPlan(TypingError):
    """What should be deeds of a plan are none."""


class TooLarge(TypingError):
    """More is asked for than can be found out."""
