"""The fewest words that end the statement at hand, and words that are so few."""

from typingroom.frames import fewest_behind
from typingroom.lore import NO_KIND, each_once
from typingroom.reading import Reader, State, barred_words, likely_words, step
from typingroom.rules import OF_FIELD

LETTERS = "abcdefghijklmnopqrstuvwxyz"


def fewest_to_end(reader, state):
    """The fewest words that end the statement at hand (a give, if none is begun), None if none do.

    With the reader's table for what is still to come; 0 behind a right text.
    """
    action = FEWEST[state.mode]
    return action(reader, state)


def from_statement(reader, state):
    """A give, an expression for the goal, and the end."""
    return plus(2, reader.table.get(reader.lore.goal))


def from_name(reader, state):
    """A word, what stands behind it, and the end."""
    return plus(3, reader.table.get(NO_KIND))


def from_equals(reader, state):
    """The sign, an expression, and the end."""
    return plus(2, reader.table.get(NO_KIND))


def from_expression(reader, state):
    """An expression, and what is behind it."""
    ends = state.frame.ends
    return min([reader.table[need] + ends[need] for need in ends if need in reader.table], default=None)


def from_bracket(reader, state):
    """The sign that opens a call, and what is behind it."""
    return plus(1, from_arguments(reader, state))


def from_arguments(reader, state):
    """All arguments of a call, and what is behind them."""
    rows = state.frame.signatures
    return fewest_of([state.frame.fewest_from(reader.lore, reader.table, row, 0) for row in rows])


def from_chain(reader, state):
    """The fields of a chain, if any, and what is behind them."""
    return fewest_behind(reader.lore, state.types, state.frame)


def from_dot(reader, state):
    """At least one field of a chain, and what is behind it."""
    fields = reader.lore.fields
    types = each_once([inner for one in state.types for inner in fields[one].values()])
    return plus(OF_FIELD - 1, fewest_behind(reader.lore, types, state.frame))


def from_fields(reader, state):
    """The fields of a literal, and what is behind it."""
    choices = state.frame.choices
    return fewest_of([state.frame.fewest_from(reader.lore, reader.table, choice, 0) for choice in choices])


def from_colon(reader, state):
    """The sign behind a field, and what is behind that."""
    return plus(1, from_expression(reader, state))


def from_literal(reader, state):
    """What is behind a literal."""
    ends = state.frame.ends
    return min([ends[need] for need in state.fits if need in ends], default=None)


def from_end(reader, state):
    """Nothing."""
    return 0


FEWEST = {
    "statement": from_statement, "name": from_name, "equals": from_equals, "expression": from_expression,
    "bracket": from_bracket, "arguments": from_arguments, "chain": from_chain, "literal": from_literal,
    "dot": from_dot, "fields": from_fields, "field": from_fields, "colon": from_colon, "whole": from_end,
}


def plus(more, number):
    """A number and some more, None if there is none."""
    return None if number is None else number + more


def fewest_of(numbers):
    """The least of the numbers, without those that are None."""
    return min([number for number in numbers if number is not None], default=None)


def alive_step(reader, state, word):
    """The state behind one more word or sign, None if words are dead behind it."""
    further = step(reader, state, word)
    if further is None or fewest_to_end(reader, further) is None:
        return None
    return further


def with_table(reader, state, table):
    """A reader with another table, and the state with frames that go by it."""
    other = Reader(reader.lore, table)
    return other, framed(other, state, None, frames_of(state))


def frames_of(state):
    """The list of the frames of a state, from the outside inwards."""
    frames = []
    frame = state.frame
    while frame is not None:
        frames.append(frame)
        frame = frame.outer
    return frames[::-1]


def framed(reader, state, outer, frames):
    """The state with such frames, from the outside inwards, in another outer one, by the reader's table."""
    frame = outer
    for old in frames:
        frame = old.within(frame)
        frame.settle(reader.lore, reader.table)
    return State(state.mode, frame, state.lets, state.types, state.fits)


def ending_words(reader, state):
    """As few words as can be that end the statement at hand, when the reader's table tells least numbers."""
    words = []
    left = fewest_to_end(reader, state)
    while left > 0:
        left -= 1
        word, state = next_word(reader, state, left)
        words.append(word)
    return words


def next_word(reader, state, left):
    """The first word or sign, ascending, behind which so many words are left, and the state behind it."""
    likely = ["give"] if state.mode == "statement" else likely_words(reader, state)
    barred = barred_words(reader, state)
    if barred is not None:
        likely = likely + [fresh_word(barred)]
    for word in likely:
        further = step(reader, state, word)
        if further is not None and words_left(reader, further) == left:
            return word, further
    return None, state


def words_left(reader, state):
    """The fewest words that end the statement of which the last word that was read is a part, None if none do."""
    return 0 if is_ended(state) else fewest_to_end(reader, state)


def is_ended(state):
    """Whether no statement is begun and not ended."""
    return state.mode in ("statement", "whole")


def fresh_word(taken):
    """The first word of one or two letters that is not taken; texts are too short to take them all."""
    for first in [""] + list(LETTERS):
        for second in LETTERS:
            if first + second not in taken:
                return first + second
    return None
