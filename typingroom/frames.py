"""What is begun and not ended in words: a statement, and in it calls and literals.

A frame knows the needs that the expression at hand in it can have, by all that was read, but with no view to what
comes. `ends` is a dict from those of these needs with which the statement can still be ended to the fewest words
that end it behind the expression; a table (as of Rules) tells what expressions that are still to come take.
"""

from typingroom.lore import NO_KIND, each_once
from typingroom.rules import OF_FIELD, keep_fewest, told_numbers


class Statement:
    """A let of a word, or a give, of which the word is None."""

    def __init__(self, need, word):
        self.outer = None
        self.need = need
        self.word = word
        self.ends = {need: 1}

    def asked(self, lore):
        """The needs of the expression at hand."""
        return [self.need]

    def settle(self, lore, table):
        """Find the ends, when those of the outer frame are found."""
        self.ends = {self.need: 1}

    def within(self, outer):
        """The same in another outer frame."""
        return Statement(self.need, self.word)


class Call:
    """A call of a function's word, the signatures that its arguments so far fit, and the argument's place at hand."""

    def __init__(self, outer, word, signatures, at):
        self.outer = outer
        self.word = word
        self.signatures = signatures
        self.at = at
        self.ends = {}

    def asked(self, lore):
        """The needs of the expression at hand."""
        return each_once([row[0][self.at] for row in self.signatures if self.at < len(row[0])])

    def settle(self, lore, table):
        """Find the ends, when those of the outer frame are found."""
        self.ends = {}
        for signature in self.signatures:
            if self.at < len(signature[0]):
                number = self.fewest_from(lore, table, signature, self.at + 1)
                if number is not None:
                    keep_fewest(self.ends, signature[0][self.at], number)

    def within(self, outer):
        """The same in another outer frame."""
        return Call(outer, self.word, self.signatures, self.at)

    def fewest_from(self, lore, table, signature, first):
        """The fewest words from the argument at a place on, if there is one, to the statement's end, or None."""
        parameters, needed, result = signature
        behind = fewest_behind(lore, [result], self.outer)
        arguments = fewest_arguments(parameters, needed, first, table)
        if behind is None or arguments is None:
            return None
        return arguments + 1 + behind


class Braces:
    """A literal with the needs that it can have, its fields so far, and the own types of their expressions.

    The last field has no expression as long as there are fewer lists of own types than fields.
    """

    def __init__(self, outer, choices, fields, types):
        self.outer = outer
        self.choices = choices
        self.fields = fields
        self.types = types
        self.ends = {}

    def need_in(self, lore, choice):
        """The need of the expression of the last field, if the literal has the need that is chosen."""
        return NO_KIND if choice == NO_KIND else lore.fields[choice][self.fields[-1]]

    def asked(self, lore):
        """The needs of the expression at hand."""
        return each_once([self.need_in(lore, choice) for choice in self.choices])

    def left(self, lore, choice):
        """The fields that are still to come."""
        return [field for field in lore.fields[choice] if field not in self.fields]

    def settle(self, lore, table):
        """Find the ends, when those of the outer frame are found."""
        self.ends = {}
        if len(self.types) < len(self.fields):
            for choice in self.choices:
                number = self.fewest_from(lore, table, choice, 1)
                if number is not None:
                    keep_fewest(self.ends, self.need_in(lore, choice), number)

    def within(self, outer):
        """The same in another outer frame."""
        return Braces(outer, self.choices, self.fields, self.types)

    def fewest_from(self, lore, table, choice, commas):
        """The fewest words from the fields to come on to the statement's end, or None.

        The first one of these fields has so many commas in front that are still to come, 1 or 0.
        """
        if choice not in self.outer.ends:
            return None
        if choice == NO_KIND:
            number = self.fewest_any_fields(table, commas)
        else:
            number = self.fewest_fields(lore, table, choice, commas)
        return None if number is None else number + 1 + self.outer.ends[choice]

    def fewest_fields(self, lore, table, choice, commas):
        """The fewest words of the fields that a record type still asks for, or None."""
        inner = [lore.fields[choice][field] for field in self.left(lore, choice)]
        numbers = told_numbers(inner, table)
        if numbers is None:
            return None
        number = sum(numbers) + (OF_FIELD + 1) * len(numbers)
        return number - 1 if numbers and commas == 0 else number

    def fewest_any_fields(self, table, commas):
        """The fewest words of further fields where any can stand, or None.

        A changed table can tell that a field takes less than nothing, and then there are no fewest words.
        """
        if NO_KIND not in table or table[NO_KIND] + OF_FIELD + 1 < 0:
            return None
        if commas == 1:
            return 0
        number = table[NO_KIND] + OF_FIELD
        return number if self.fields else min(0, number)


def fewest_behind(lore, types, frame):
    """The fewest words behind a chain with these own types to the statement's end, or None."""
    found = []
    for one in types:
        for need, number in frame.ends.items():
            steps = lore.steps(one, need)
            if steps is not None:
                found.append(OF_FIELD * steps + number)
    return min(found, default=None)


def fewest_arguments(parameters, needed, first, table):
    """The fewest words of the arguments from a place on, each with the comma in front of it, or None."""
    found = []
    number = 0
    for place in range(first, len(parameters) + 1):
        if place >= needed:
            found.append(number)
        if place == len(parameters) or parameters[place] not in table:
            break
        number += table[parameters[place]] + (1 if place > 0 else 0)
    return min(found, default=None)
