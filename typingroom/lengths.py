"""In how many words a give can be ended, as masks: a mask has the bit n where n words do it."""

from typingroom.frames import Call, Statement
from typingroom.lore import NO_KIND
from typingroom.rules import OF_BRACES, OF_CALL, OF_FIELD, OF_NAME

NONE_MORE = 1


class Lengths:
    """The masks of a room with some lets, up to so many words."""

    def __init__(self, lore, lets, most):
        self.lore = lore
        self._limit = (1 << (most + 1)) - 1
        self._paths = {}
        self._ends = {}
        self._own = [number for types in lore.names.values() for number in types]
        self._own.extend([number for types in lets.values() for number in types])
        self._rows = [row for rows in lore.functions.values() for row in rows]
        self._table = {need: 0 for need in lore.needs if need != NO_KIND}
        self._fill_table()

    def _fill_table(self):
        """Find the masks of the expressions that fit each need of the room."""
        names = {need: self._named(need) for need in self._table}
        leading = {need: self._leading_rows(need) for need in self._table}
        last = {}
        while self._table != last:
            last = self._table
            calls = [self._arguments(row, 0) << OF_CALL for row in self._rows]
            table = {}
            for need in last:
                found = names[need] | self._literal(need)
                for place, paths in leading[need]:
                    found = found | self.sums(calls[place], paths)
                table[need] = found & self._limit
            self._table = table

    def _named(self, need):
        """The mask of names, with fields, that fit a need."""
        found = 0
        for kind in self._own:
            found = found | self.paths(kind, need) << OF_NAME
        return found & self._limit

    def _leading_rows(self, need):
        """Pairs of the places of signatures, and what the fields take that lead from their results to a need."""
        pairs = [(place, self.paths(row[2], need)) for place, row in enumerate(self._rows)]
        return [(place, paths) for place, paths in pairs if paths]

    def _literal(self, need):
        """The mask of the literals that fit a need, by the table so far."""
        if not self.lore.is_record(need):
            return 0
        return self._fields(list(self.lore.fields[need].values())) << (OF_BRACES - 1)

    def sums(self, one, other):
        """The mask of the sums of a number of the one and a number of the other mask."""
        found = 0
        rest = one
        shift = 0
        while rest and other:
            if rest & 1:
                found = found | other << shift
            rest = rest >> 1
            shift += 1
        return found & self._limit

    def paths(self, one, need):
        """The mask of what the fields take that lead from a type to one below a need."""
        key = (one, need)
        if key not in self._paths:
            found = NONE_MORE if self.lore.below(one, need) else 0
            for inner in self.lore.fields[one].values():
                found = found | self.paths(inner, need) << OF_FIELD
            self._paths[key] = found & self._limit
        return self._paths[key]

    def _arguments(self, row, first):
        """The mask of the arguments of a signature from a place on, each with the comma in front of it."""
        parameters, needed, _ = row
        found = 0
        so_far = NONE_MORE
        for place in range(first, len(parameters) + 1):
            if place >= needed:
                found = found | so_far
            if place < len(parameters):
                so_far = self.sums(so_far, self._table[parameters[place]]) << (1 if place > 0 else 0)
        return found & self._limit

    def _fields(self, needs):
        """The mask of fields of these needs and the brace behind them, the first one without a comma in front."""
        found = NONE_MORE
        for need in needs:
            found = self.sums(found, self._table[need]) << (OF_FIELD + 1)
        return (found if needs else found << 1) & self._limit

    def ends_in(self, frame):
        """A dict from the needs of the expression at hand in a frame to the masks of what is behind it."""
        if frame not in self._ends:
            found = {}
            for need, mask in self._needs_and_ends(frame):
                found[need] = found.get(need, 0) | mask
            self._ends[frame] = found
        return self._ends[frame]

    def _needs_and_ends(self, frame):
        """Pairs of a need of the expression at hand, and a mask of what is behind it."""
        if isinstance(frame, Statement):
            return [(frame.need, NONE_MORE << 1)]
        if isinstance(frame, Call):
            at = frame.at
            rows = [row for row in frame.signatures if at < len(row[0])]
            return [(row[0][at], self.behind_call(frame, row, at + 1)) for row in rows]
        rows = self.lore.fields
        return [(rows[choice][frame.fields[-1]], self.behind_literal(frame, choice, 1)) for choice in frame.choices]

    def behind_call(self, frame, row, first):
        """The mask of what is left of a call of a signature from an argument on, and what is behind the call."""
        return self.sums(self._arguments(row, first) << 1, self.behind(row[2], frame.outer))

    def behind_literal(self, frame, choice, commas):
        """The mask of what is left of a literal of a record type, with so many commas in front, and behind it."""
        needs = [self.lore.fields[choice][field] for field in frame.left(self.lore, choice)]
        fields = self._fields(needs) << (commas if needs else 0)
        return self.sums(fields, self.ends_in(frame.outer).get(choice, 0))

    def behind(self, kind, frame):
        """The mask of what is behind a chain with an own type in a frame."""
        found = 0
        for need, mask in self.ends_in(frame).items():
            found = found | self.sums(self.paths(kind, need), mask)
        return found

    def expression(self, frame):
        """The mask of an expression in a frame, and what is behind it."""
        found = 0
        for need, mask in self.ends_in(frame).items():
            found = found | self.sums(self._table[need], mask)
        return found


def mask_of(lengths, state):
    """The mask of the numbers of words that end the give at hand behind a state."""
    action = MASKS[state.mode]
    return action(lengths, state)


def of_expression(lengths, state):
    """An expression, and what is behind it."""
    return lengths.expression(state.frame)


def of_bracket(lengths, state):
    """The sign that opens a call, and what is behind it."""
    return of_arguments(lengths, state) << 1


def of_arguments(lengths, state):
    """All arguments of a call, and what is behind them."""
    return joined([lengths.behind_call(state.frame, row, 0) for row in state.frame.signatures])


def of_chain(lengths, state):
    """The fields of a chain, if any, and what is behind them."""
    return joined([lengths.behind(kind, state.frame) for kind in state.types])


def of_dot(lengths, state):
    """At least one field of a chain, and what is behind it."""
    fields = lengths.lore.fields
    types = [inner for kind in state.types for inner in fields[kind].values()]
    return joined([lengths.behind(kind, state.frame) for kind in types]) << (OF_FIELD - 1)


def of_fields(lengths, state):
    """The fields of a literal, and what is behind it."""
    return joined([lengths.behind_literal(state.frame, choice, 0) for choice in state.frame.choices])


def of_colon(lengths, state):
    """The sign behind a field, and what is behind that."""
    return of_expression(lengths, state) << 1


def of_literal(lengths, state):
    """What is behind a literal."""
    ends = lengths.ends_in(state.frame)
    return joined([ends.get(need, 0) for need in state.fits])


def of_end(lengths, state):
    """Nothing."""
    return NONE_MORE


MASKS = {
    "expression": of_expression, "bracket": of_bracket, "arguments": of_arguments, "chain": of_chain,
    "literal": of_literal, "dot": of_dot, "fields": of_fields, "field": of_fields, "colon": of_colon, "whole": of_end,
}


def joined(masks):
    """The mask that has the bits of all."""
    found = 0
    for mask in masks:
        found = found | mask
    return found
