"""What several holes in a text can be together."""

from typingroom.fillings import Fillings


def holes(room, words):
    """The ascending list of the greatest rows of types that names in the holes can have."""
    return Fillings(room, words).greatest()


def are_fillings(room, words, kinds):
    """Whether names in the holes can have a row of types."""
    return Fillings(room, words).takes(kinds)
