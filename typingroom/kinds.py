"""Words, types, needs and numbers: which values are such, and the texts of types."""

ANY = ("any",)
NO_WORDS = ("any", "give", "let")
LONGEST = 10
DEEPEST = 8


def is_small(letter):
    """Whether a character is one of the letters that words are made of."""
    return "a" <= letter <= "z"


def is_word(thing):
    """Whether a value is a word."""
    if not isinstance(thing, str) or not 1 <= len(thing) <= LONGEST:
        return False
    return thing not in NO_WORDS and all([is_small(letter) for letter in thing])


def is_whole(thing):
    """Whether a value is an integer; True and False are none."""
    return isinstance(thing, int) and not isinstance(thing, bool)


def is_within(thing, least, most):
    """Whether a value is an integer between these, both among them."""
    return is_whole(thing) and least <= thing <= most


def is_type(thing):
    """Whether a value is a type."""
    return is_nested_type(thing, DEEPEST)


def is_need(thing):
    """Whether a value is a type, or any."""
    return thing == ANY or is_type(thing)


def is_nested_type(thing, deepest):
    """Whether a value is a type that is nested at most so deep."""
    if deepest == 0 or not isinstance(thing, tuple) or len(thing) != 2:
        return False
    if thing[0] == "base":
        return is_word(thing[1])
    if thing[0] != "record" or not isinstance(thing[1], tuple):
        return False
    rows = thing[1]
    if not all([is_row(row, deepest - 1) for row in rows]):
        return False
    return all([one[0] < other[0] for one, other in zip(rows, rows[1:])])


def is_row(thing, deepest):
    """Whether a value is a field and its type, nested at most so deep."""
    if not isinstance(thing, tuple) or len(thing) != 2:
        return False
    return is_word(thing[0]) and is_nested_type(thing[1], deepest)


def nesting(kind):
    """How deep a type is nested."""
    if kind[0] == "base":
        return 1
    return 1 + max([nesting(inner) for _, inner in kind[1]], default=0)


def type_text(told):
    """The text of a type, or of any."""
    if told == ANY:
        return "any"
    if told[0] == "base":
        return told[1]
    rows = [field + ": " + type_text(kind) for field, kind in told[1]]
    return "{" + ", ".join(rows) + "}"
