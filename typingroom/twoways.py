"""A room seen twice: what one expression can be in two ways, with the same signatures of its calls or with others.

The key of a chain is ("chain", one, other, differ), with the numbers of the types that it has in both ways, that of a
literal ("literal", one, other, differ), with those of the records that it fits; and whether the ways differ.
"""

from typingroom.kinds import is_type
from typingroom.lore import NO_KIND, Lore
from typingroom.making import commas_ahead, words_ahead


class WaysRule:
    """A call by two signatures of a function, or a literal of two records with the same fields.

    The pairs are the needs of its parts in both ways, the numbers those of the signatures, None for a literal. The
    state is whether the ways differ.
    """

    def __init__(self, front, ahead, pairs, least, results, numbers):
        self.front = front
        self.ahead = ahead
        self.back = "}" if numbers is None else ")"
        self.numbers = numbers
        self.start = numbers is not None and numbers[0] != numbers[1]
        self._pairs = pairs
        self._least = least
        self._results = results

    def gift(self, place, fits):
        """Whether the ways of an expression at a place differ, None if it does not fit in both."""
        one, other = self._pairs[place]
        return fits[2] if one in fits[0] and other in fits[1] else None

    def joined(self, state, gift):
        """Whether any ways differ."""
        return state or gift

    def ended(self, many, state):
        """The key of what there is with so many parts, None if it needs more."""
        if many < self._least:
            return None
        return ("literal" if self.numbers is None else "chain", *self._results, state)


class TwoWays:
    """A room as a subject of Making, for its expressions in two ways."""

    def __init__(self, room):
        self._lore = Lore(room)
        self._above = {}
        self.names = [(word, ("chain", *kinds, *kinds, False)) for word, kinds in self._lore.names.items()]
        self.rules = self._calls() + self._literals()

    def _calls(self):
        """The rules for calls, by two signatures that take as many arguments."""
        rules = []
        for word, rows in self._lore.functions.items():
            for one, first in enumerate(rows):
                for other, second in enumerate(rows):
                    pairs = list(zip(first[0], second[0]))
                    least = max(first[1], second[1])
                    if least <= len(pairs):
                        results = (first[2], second[2])
                        ahead = commas_ahead(len(pairs))
                        rules.append(WaysRule([word, "("], ahead, pairs, least, results, (one, other)))
        return rules

    def _literals(self):
        """The rules for literals, by two records that have the same fields."""
        rules = []
        fields = self._lore.fields
        records = self._records()
        for one in records:
            for other in records:
                if list(fields[one]) == list(fields[other]):
                    pairs = [(fields[one][field], fields[other][field]) for field in fields[one]]
                    ahead = words_ahead(list(fields[one]))
                    rules.append(WaysRule(["{"], ahead, pairs, len(pairs), (one, other), None))
        return rules

    def _records(self):
        return [need for need in self._lore.needs if self._lore.is_record(need)]

    def of_fields(self, key):
        """The pairs of a field that is taken of a chain in both ways, and the key of the chain with it."""
        shape, one, other, differ = key
        if shape == "literal":
            return []
        rows = (self._lore.fields[one], self._lore.fields[other])
        return [(field, ("chain", rows[0][field], rows[1][field], differ)) for field in rows[0] if field in rows[1]]

    def fits_of(self, key):
        """The needs that expressions with a key fit in the one and in the other way, and whether these differ."""
        shape, one, other, differ = key
        if shape == "literal":
            return ((one,), (other,), differ)
        return (self._needs_above(one), self._needs_above(other), differ)

    def _needs_above(self, number):
        """The tuple of the needs that a type is below."""
        if number not in self._above:
            lore = self._lore
            needs = [need for need in lore.needs if need != NO_KIND and lore.below(number, need)]
            self._above[number] = tuple(needs)
        return self._above[number]

    def is_double(self, key):
        """Whether expressions with a key fit the goal in ways that differ."""
        fits = self.fits_of(key)
        return fits[2] and self._lore.goal in fits[0] and self._lore.goal in fits[1]

    def triple_of(self, key):
        """The triple of two types and a Boolean that a key stands for."""
        _, one, other, differ = key
        return (self._lore.kinds[one], self._lore.kinds[other], differ)

    def key_of(self, shape, told):
        """The key of a triple, None if it is none."""
        if not is_triple(told):
            return None
        one, other = [self._lore.numbered(kind) for kind in told[:2]]
        if shape == "literal":
            records = self._records()
            fields = self._lore.fields
            if one not in records or other not in records or list(fields[one]) != list(fields[other]):
                return None
        return (shape, one, other, told[2])


def is_triple(thing):
    """Whether a value is a triple of two types and a Boolean."""
    if not isinstance(thing, tuple) or len(thing) != 3 or not isinstance(thing[2], bool):
        return False
    return is_type(thing[0]) and is_type(thing[1])
