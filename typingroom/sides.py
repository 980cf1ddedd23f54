"""Two rooms side by side: what expressions are in the one and in the other, by what they fit in both.

Needs are the goals, the types of parameters, and all types in these, of both rooms, each with a place; what fits some
of them is told by an integer with the bits of their places. The key of a class of chains is ("chain", types, types),
with the ascending numbers of its own types in both rooms, that of a class of literals ("literal", fits, fits).
"""

from typingroom.kinds import is_type
from typingroom.lore import NO_KIND, Lore, each_once
from typingroom.making import commas_ahead, words_ahead


def has_bit(bits, place):
    """Whether an integer has the bit of a place."""
    return (bits >> place) & 1 == 1


class SideRule:
    """A call of a function, or a literal with some fields, in both rooms.

    The rows tell what it can be: the side (0 or 1), the places of the needs of its parts, the number of parts that it
    has at least, and its result. The state is an integer with the bits of the rows that its parts so far fit.
    """

    def __init__(self, shape, front, ahead, rows):
        self.shape = shape
        self.front = front
        self.ahead = ahead
        self.back = ")" if shape == "chain" else "}"
        self.start = (1 << len(rows)) - 1
        self._rows = rows

    def gift(self, place, fits):
        """The bits of the rows that an expression at a place fits, None if it fits none."""
        bits = 0
        for bit, (side, needs, _, _) in enumerate(self._rows):
            if place < len(needs) and has_bit(fits[side], needs[place]):
                bits += 1 << bit
        return bits if bits > 0 else None

    def joined(self, state, gift):
        """The bits that are in both, None if there are none."""
        both = state & gift
        return both if both > 0 else None

    def ended(self, many, state):
        """The key of what there is with so many parts, None if it is nothing in both rooms."""
        found = ({}, {})
        for bit, (side, needs, least, result) in enumerate(self._rows):
            if has_bit(state, bit) and least <= many <= len(needs):
                found[side][result] = True
        if not found[0] and not found[1]:
            return None
        if self.shape == "chain":
            return ("chain", tuple(sorted(found[0])), tuple(sorted(found[1])))
        return ("literal", sum([1 << need for need in found[0]]), sum([1 << need for need in found[1]]))


class Sides:
    """Two rooms as a subject of Making."""

    def __init__(self, one, other):
        self._lores = (Lore(one), Lore(other))
        self._needs = self._all_needs()
        # The numbers that the needs have in both rooms, and the places of these numbers.
        self._numbers = [[lore.numbered(kind) for kind in self._needs] for lore in self._lores]
        self._places = [{number: place for place, number in enumerate(numbers)} for numbers in self._numbers]
        self._above = ({}, {})
        self.names = self._named()
        self.rules = self._calls() + self._literals()

    def _all_needs(self):
        """The ascending list of the needs of both rooms, but for any."""
        asked = [lore.kinds[number] for lore in self._lores for number in lore.needs if number != NO_KIND]
        first = self._lores[0]
        return sorted([first.kinds[number] for number in each_once([first.numbered(kind) for kind in asked])])

    def _named(self):
        rows = (self._lores[0].names, self._lores[1].names)
        words = sorted(list({**rows[0], **rows[1]}))
        return [(word, ("chain", tuple(rows[0].get(word, [])), tuple(rows[1].get(word, [])))) for word in words]

    def _calls(self):
        """The rules for the functions of the rooms."""
        rules = []
        for word in sorted({**self._lores[0].functions, **self._lores[1].functions}):
            rows = []
            for side, lore in enumerate(self._lores):
                for parameters, needed, result in lore.functions.get(word, []):
                    rows.append((side, [self._places[side][kind] for kind in parameters], needed, result))
            most = max([len(needs) for _, needs, _, _ in rows])
            rules.append(SideRule("chain", [word, "("], commas_ahead(most), rows))
        return rules

    def _literals(self):
        """The rules for the literals that fit a need; the order of their fields does not matter."""
        rows = {}
        for place, kind in enumerate(self._needs):
            if kind[0] == "record":
                fields = tuple([field for field, _ in kind[1]])
                for side, lore in enumerate(self._lores):
                    inner = lore.fields[self._numbers[side][place]]
                    needs = [self._places[side][inner[field]] for field in fields]
                    rows.setdefault(fields, []).append((side, needs, len(needs), place))
        return [SideRule("literal", ["{"], words_ahead(fields), rows[fields]) for fields in sorted(rows)]

    def of_fields(self, key):
        """The pairs of a field that is taken of a chain, and the key of the chain with it."""
        shape, *types = key
        if shape == "literal":
            return []
        rows = [[lore.fields[number] for number in numbers] for lore, numbers in zip(self._lores, types)]
        found = []
        for field in sorted(set([field for side in rows for inner in side for field in inner])):
            kinds = [sorted(set([inner[field] for inner in side if field in inner])) for side in rows]
            found.append((field, ("chain", tuple(kinds[0]), tuple(kinds[1]))))
        return found

    def fits_of(self, key):
        """The needs that expressions with a key fit in the one and in the other room."""
        shape, *types = key
        if shape == "literal":
            return tuple(types)
        return (self._all_above(0, types[0]), self._all_above(1, types[1]))

    def _all_above(self, side, numbers):
        """The bits of the needs that one of the types is below."""
        bits = 0
        for number in numbers:
            if number not in self._above[side]:
                self._above[side][number] = self._bits_above(side, number)
            bits = bits | self._above[side][number]
        return bits

    def _bits_above(self, side, number):
        lore = self._lores[side]
        return sum([1 << at for at, need in enumerate(self._numbers[side]) if lore.below(number, need)])

    def are_parted(self, key):
        """Whether expressions with a key fit the goal of one of the rooms alone."""
        goals = [self._places[side][lore.goal] for side, lore in enumerate(self._lores)]
        fits = self.fits_of(key)
        return has_bit(fits[0], goals[0]) != has_bit(fits[1], goals[1])

    def class_of(self, key):
        """The pair of ascending tuples of types that a key stands for."""
        shape, *types = key
        if shape == "literal":
            return tuple([tuple([kind for at, kind in enumerate(self._needs) if has_bit(bits, at)]) for bits in types])
        return tuple([tuple(sorted([lore.kinds[number] for number in numbers]))
                      for lore, numbers in zip(self._lores, types)])

    def key_of(self, shape, told):
        """The key of a class, None if it is none."""
        if not is_class(told):
            return None
        if shape == "chain":
            rows = [sorted([lore.numbered(kind) for kind in kinds]) for lore, kinds in zip(self._lores, told)]
            return ("chain", tuple(rows[0]), tuple(rows[1]))
        records = [kind for kind in self._needs if kind[0] == "record"]
        if not all([kind in records for kinds in told for kind in kinds]):
            return None
        bits = [sum([1 << self._needs.index(kind) for kind in kinds]) for kinds in told]
        return ("literal", bits[0], bits[1])


def is_class(thing):
    """Whether a value is a pair of ascending tuples of types, not both empty."""
    if not isinstance(thing, tuple) or len(thing) != 2 or not all([isinstance(kinds, tuple) for kinds in thing]):
        return False
    if not all([is_type(kind) for kinds in thing for kind in kinds]) or thing == ((), ()):
        return False
    return all([one < other for kinds in thing for one, other in zip(kinds, kinds[1:])])
