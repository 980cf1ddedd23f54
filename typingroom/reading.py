"""Reading words one behind the other, by the rules of right texts, with no view to what comes."""

from typingroom.frames import Braces, Call, Statement
from typingroom.kinds import is_word
from typingroom.lore import NO_KIND, each_once
from typingroom.words import SIGNS


class State:
    """What words leave behind.

    The mode tells what is due: "statement", "name" and "equals" (of a let), "expression", "bracket" (behind the word
    of a function), "arguments" (behind the bracket), "chain" and "literal" (behind such an expression), "dot" (behind
    it), "fields" (behind a brace), "field" (behind a comma), "colon", or nothing: "whole". The frame is the innermost
    one. A chain has its own types; a literal those that it has in a let, and the needs that it fits.
    """

    def __init__(self, mode, frame, lets, types=(), fits=()):
        self.mode = mode
        self.frame = frame
        self.lets = lets
        self.types = types
        self.fits = fits


class Reader:
    """What reading goes by: the lore of a room, and a table with which the ends of frames are found."""

    def __init__(self, lore, table):
        self.lore = lore
        self.table = table

    def state(self, mode, frame, lets):
        """A state with a new frame."""
        frame.settle(self.lore, self.table)
        return State(mode, frame, lets)

    def is_taken(self, lets, word):
        """Whether a let can not have this word."""
        return word in lets or word in self.lore.names or word in self.lore.functions


def begin():
    """The state without words."""
    return State("statement", None, {})


def step(reader, state, word):
    """The state behind one more word or sign, None if the rules bar it at once."""
    action = STEPS[state.mode]
    return action(reader, state, word)


def at_statement(reader, state, word):
    """A let or a give."""
    if word == "give":
        return State("expression", Statement(reader.lore.goal, None), state.lets)
    return State("name", None, state.lets) if word == "let" else None


def at_name(reader, state, word):
    """The word of a let."""
    if not is_word(word) or reader.is_taken(state.lets, word):
        return None
    return State("equals", Statement(NO_KIND, word), state.lets)


def at_equals(reader, state, word):
    """The sign behind the word of a let."""
    return State("expression", state.frame, state.lets) if word == "=" else None


def at_expression(reader, state, word):
    """The first word of an expression."""
    lore = reader.lore
    if word == "{":
        choices = [need for need in state.frame.asked(lore) if need == NO_KIND or lore.is_record(need)]
        return State("fields", Braces(state.frame, choices, [], []), state.lets) if choices else None
    if word in lore.functions:
        return reader.state("bracket", Call(state.frame, word, lore.functions[word], 0), state.lets)
    types = lore.names[word] if word in lore.names else state.lets.get(word, [])
    return State("chain", state.frame, state.lets, types) if types else None


def at_bracket(reader, state, word):
    """The sign that opens a call."""
    return State("arguments", state.frame, state.lets) if word == "(" else None


def at_arguments(reader, state, word):
    """The first argument of a call, or its end."""
    if word == ")":
        return end_call(state, [row for row in state.frame.signatures if row[1] == 0])
    return at_expression(reader, state, word)


def at_chain(reader, state, word):
    """Behind a chain."""
    if word == ".":
        return State("dot", state.frame, state.lets, state.types)
    return end_expression(reader, state, word)


def at_dot(reader, state, word):
    """The field of a chain."""
    fields = reader.lore.fields
    types = each_once([fields[one][word] for one in state.types if word in fields[one]])
    return State("chain", state.frame, state.lets, types) if types else None


def at_fields(reader, state, word):
    """The first field of a literal, or its end."""
    return end_literal(reader, state, state.frame) if word == "}" else at_field(reader, state, word)


def at_field(reader, state, word):
    """A field of a literal."""
    frame = state.frame
    if not is_word(word) or word in frame.fields:
        return None
    rows = reader.lore.fields
    choices = [choice for choice in frame.choices if choice == NO_KIND or word in rows[choice]]
    if not choices:
        return None
    return reader.state("colon", Braces(frame.outer, choices, frame.fields + [word], frame.types), state.lets)


def at_colon(reader, state, word):
    """The sign behind a field of a literal."""
    return State("expression", state.frame, state.lets) if word == ":" else None


def at_end(reader, state, word):
    """Behind a right text nothing stands."""
    return None


def end_expression(reader, state, word):
    """The sign behind an expression, by what it stands in."""
    if isinstance(state.frame, Statement):
        return end_statement(reader, state) if word == ";" else None
    if isinstance(state.frame, Call):
        return end_argument(reader, state, word) if word in (",", ")") else None
    return end_field(reader, state, word) if word in (",", "}") else None


def has_fit(reader, state, need):
    """Whether the expression that has just been read fits a need."""
    if state.mode == "literal":
        return need in state.fits
    return any([reader.lore.below(one, need) for one in state.types])


def end_statement(reader, state):
    """The end of a let or a give."""
    if not has_fit(reader, state, state.frame.need):
        return None
    if state.frame.word is None:
        return State("whole", None, state.lets)
    return State("statement", None, {**state.lets, state.frame.word: list(state.types)})


def end_argument(reader, state, word):
    """The end of an argument, by a comma or by the end of the call."""
    frame = state.frame
    at = frame.at
    rows = [row for row in frame.signatures if at < len(row[0]) and has_fit(reader, state, row[0][at])]
    if word == ")":
        return end_call(state, [row for row in rows if row[1] <= at + 1])
    rows = [row for row in rows if at + 1 < len(row[0])]
    return reader.state("expression", Call(frame.outer, frame.word, rows, at + 1), state.lets) if rows else None


def end_call(state, signatures):
    """The chain that a call is, when its arguments fit these signatures."""
    types = each_once([row[2] for row in signatures])
    return State("chain", state.frame.outer, state.lets, types) if types else None


def end_field(reader, state, word):
    """The end of a field of a literal, by a comma or by the end of the literal."""
    frame = state.frame
    lore = reader.lore
    choices = [choice for choice in frame.choices if has_fit(reader, state, frame.need_in(lore, choice))]
    done = Braces(frame.outer, choices, frame.fields, frame.types + [list(state.types)])
    if word == "}":
        return end_literal(reader, state, done)
    done.choices = [choice for choice in choices if choice == NO_KIND or done.left(lore, choice)]
    return State("field", done, state.lets) if done.choices else None


def end_literal(reader, state, frame):
    """The literal with the fields of the frame."""
    lore = reader.lore
    fits = [choice for choice in frame.choices if not frame.left(lore, choice)]
    if not fits:
        return None
    types = own_records(lore, frame.fields, frame.types) if NO_KIND in fits else []
    return State("literal", frame.outer, state.lets, types, fits)


def own_records(lore, fields, types):
    """The own types of a literal: the records with one own type of each field's expression."""
    rows = [{}]
    for field, numbers in zip(fields, types):
        rows = [{**row, field: number} for row in rows for number in numbers]
    return each_once([lore.record(row) for row in rows])


STEPS = {
    "statement": at_statement, "name": at_name, "equals": at_equals, "expression": at_expression,
    "bracket": at_bracket, "arguments": at_arguments, "chain": at_chain, "literal": end_expression, "dot": at_dot,
    "fields": at_fields, "field": at_field, "colon": at_colon, "whole": at_end,
}


def barred_words(reader, state):
    """The ascending list of the words that can not stand, where any other can; else None."""
    if state.mode == "name":
        return sorted(list(reader.lore.names) + list(reader.lore.functions) + list(state.lets))
    if state.mode in ("fields", "field") and NO_KIND in state.frame.choices:
        return sorted(state.frame.fields)
    return None


def likely_words(reader, state):
    """The ascending list of some words and signs, among them all that can stand, but where any word can."""
    found = list(SIGNS) + ["give", "let"]
    if state.mode in ("expression", "arguments"):
        found.extend(list(reader.lore.names) + list(reader.lore.functions) + list(state.lets))
    if state.mode == "dot":
        found.extend([field for one in state.types for field in reader.lore.fields[one]])
    if state.mode in ("fields", "field"):
        found.extend([field for choice in state.frame.choices for field in reader.lore.fields[choice]])
    return sorted(set(found))
