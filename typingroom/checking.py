"""Whether texts are right."""

from typingroom.lore import Lore
from typingroom.reading import Reader, begin, step
from typingroom.words import checked_words


def is_right(room, words):
    """Whether a text is right."""
    told = checked_words(words)
    # Nothing is asked about what could still come, so that no table is needed.
    reader = Reader(Lore(room), {})
    state = begin()
    for word in told:
        state = step(reader, state, word)
        if state is None:
            return False
    return state.mode == "whole"
