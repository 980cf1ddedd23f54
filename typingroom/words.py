"""Texts as lists of words and signs, and as strings."""

from typingroom.errors import BadText, BadWords
from typingroom.kinds import is_small, is_word

HOLE = "?"
SIGNS = ("=", ";", "(", ")", "{", "}", ",", ":", ".")
MOST_WORDS = 200


def is_mark(thing):
    """Whether a value is a word or a sign of texts, `let` or `give`."""
    return is_word(thing) or thing in SIGNS or thing in ("give", "let")


def marks(line):
    """What stands in a line, as pairs of a column and a string: letters that stand together, and single signs."""
    found = []
    place = 0
    while place < len(line):
        end = place + 1
        if is_small(line[place]):
            while end < len(line) and is_small(line[end]):
                end += 1
        if line[place] != " ":
            found.append((place + 1, line[place:end]))
        place = end
    return found


def split_text(text):
    """The list of the words and signs of a text."""
    if not isinstance(text, str):
        raise BadText(0, 0)
    words = []
    for row, line in enumerate(text.split("\n"), start=1):
        for column, word in marks(line):
            if len(words) == MOST_WORDS or not is_mark(word):
                raise BadText(row, column)
            words.append(word)
    return words


def checked_words(words):
    """A new list of the words and signs that were given."""
    if not isinstance(words, (list, tuple)) or len(words) > MOST_WORDS:
        raise BadWords("not a list of at most 200 words and signs")
    if not all([is_mark(word) for word in words]):
        raise BadWords("not words and signs alone")
    return list(words)


def checked_holed(words):
    """A new list of the words, signs and holes that were given."""
    if not isinstance(words, (list, tuple)):
        raise BadWords("not a list of words, signs and holes")
    checked_words([word for word in words if word != HOLE])
    if len(words) > MOST_WORDS:
        raise BadWords("more than 200 words, signs and holes")
    return list(words)


def join_words(words):
    """The text of words and signs, with a line for each statement."""
    told = checked_words(words)
    parts = []
    for place, word in enumerate(told, start=1):
        ends = word == ";" or place == len(told)
        parts.append(word + ("\n" if ends else " "))
    return "".join(parts)
