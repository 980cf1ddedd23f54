"""A room with numbers for its types, so that they are compared fast and can be keys."""

from typingroom.kinds import ANY
from typingroom.rooms import is_under

# The number of any; types have the numbers from 1 on.
NO_KIND = 0


def each_once(numbers):
    """The list of these numbers, each once, in the order in which they come first."""
    return list({number: True for number in numbers})


class Lore:
    """What is asked of a room again and again, with numbers in the place of types."""

    def __init__(self, room):
        self.kinds = [ANY]
        self.fields = [{}]
        # The room may be changed while this is still in use.
        self._above = {base: list(above) for base, above in room.above.items()}
        self._numbers = {}
        self._below = {}
        self._steps = {}
        # The room's dicts are gone through in order, so that equal rooms get equal answers.
        self.names = {name: [self.numbered(room.names[name])] for name in sorted(room.names)}
        self.functions = {word: self._signatures(room.functions[word]) for word in sorted(room.functions)}
        self.goal = self.numbered(room.goal)
        self.needs = self._all_needs()

    def _signatures(self, signatures):
        """Signatures as triples of the numbers of the parameters' types, how many are needed, and the result."""
        rows = []
        for parameters, needed, result in signatures:
            rows.append((tuple([self.numbered(kind) for _, kind in parameters]), needed, self.numbered(result)))
        return rows

    def _all_needs(self):
        """The room's needs: any, the goal, the types of parameters, and all types in these."""
        asked = [NO_KIND, self.goal]
        for signatures in self.functions.values():
            for parameters, _, _ in signatures:
                asked.extend(parameters)
        return self.with_inner(asked)

    def with_inner(self, numbers):
        """The ascending list of some types and all types in these."""
        found = {}
        waiting = list(numbers)
        while waiting:
            number = waiting.pop()
            if number not in found:
                found[number] = True
                waiting.extend(list(self.fields[number].values()))
        return sorted(found)

    def numbered(self, kind):
        """The number of a type, or of any."""
        if kind == ANY:
            return NO_KIND
        if kind[0] == "record":
            return self.record({field: self.numbered(inner) for field, inner in kind[1]})
        return self._kept(kind[1], kind, {})

    def record(self, fields):
        """The number of a record type, by a dict from its fields to the numbers of their types."""
        rows = {field: fields[field] for field in sorted(fields)}
        kind = ("record", tuple([(field, self.kinds[number]) for field, number in rows.items()]))
        return self._kept(tuple([(field, number) for field, number in rows.items()]), kind, rows)

    def _kept(self, key, kind, fields):
        """The number that a key has, a new one if it has none."""
        if key not in self._numbers:
            self._numbers[key] = len(self.kinds)
            self.kinds.append(kind)
            self.fields.append(fields)
        return self._numbers[key]

    def is_record(self, number):
        """Whether a number is that of a record type."""
        return self.kinds[number][0] == "record"

    def below(self, one, need):
        """Whether a type is below a need."""
        key = (one, need)
        if key not in self._below:
            self._below[key] = is_under(self._above, self.kinds[one], self.kinds[need])
        return self._below[key]

    def steps(self, one, need):
        """The number of fields of a shortest path from a type to one below a need, None if there is none."""
        key = (one, need)
        if key not in self._steps:
            self._steps[key] = self._counted_steps(one, need)
        return self._steps[key]

    def _counted_steps(self, one, need):
        if self.below(one, need):
            return 0
        further = [self.steps(inner, need) for inner in self.fields[one].values()]
        return min([number + 1 for number in further if number is not None], default=None)
