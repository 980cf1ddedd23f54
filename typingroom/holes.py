"""What a hole in a text can be."""

from typingroom.errors import NotWhole
from typingroom.fillings import Fillings


def one_hole(room, words):
    """The Fillings of a text with one hole."""
    found = Fillings(room, words)
    if found.many != 1:
        raise NotWhole(0)
    return found


def hole(room, words):
    """The ascending list of the greatest types that a name in the hole can have."""
    return [row[0] for row in one_hole(room, words).greatest()]


def is_filling(room, words, kind):
    """Whether a name in the hole can have a type."""
    return one_hole(room, words).takes([kind])
