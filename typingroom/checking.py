"""Whether texts are right."""

from typingroom.lore import Lore
from typingroom.reading import Reader, begin, step
from typingroom.words import checked_words


def plain_reader(room):
    """A reader that knows nothing of what could still come, and so needs no table."""
    return Reader(Lore(room), {})


def is_right(room, words):
    """Whether a text is right."""
    return is_right_text(room, checked_words(words))


def is_right_text(room, words):
    """Whether strings are a right text, which may have any number of words."""
    reader = plain_reader(room)
    state = begin()
    for word in words:
        state = step(reader, state, word)
        if state is None:
            return False
    return state.mode == "whole"
