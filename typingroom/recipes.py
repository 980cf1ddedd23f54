"""Of what chains and expressions are made: rows of parts, each one behind the other.

A part is a word, a chain of a type, or an expression that fits a type: ("word", word), ("chain", number) or
("expr", number). A row is a beginning of what makes something; row 0 is empty.
"""


class Recipes:
    """The parts by their places, the rows, and what the rows make, for the expressions that fit a need.

    Of each row there are the pairs of a row with one part less, and the place of its last part; the ends are pairs of
    the place of the part that is made, and of a row that makes it.
    """

    def __init__(self, lore, need):
        self.parts = []
        self.rows = [[]]
        self.ends = []
        self._lore = lore
        self._places = {}
        self._further = {}
        self.chains = lore.with_inner(self._own_types())
        self.exprs = lore.with_inner([need] + self._parameters())
        for number in self.chains:
            self.place_of("chain", number)
        for number in self.exprs:
            self.place_of("expr", number)
        self._add_names()
        self._add_calls()
        self._add_fields()
        self._add_expressions()

    def _signatures(self):
        return [(word, row) for word, rows in self._lore.functions.items() for row in rows]

    def _own_types(self):
        own = [number for types in self._lore.names.values() for number in types]
        return own + [row[2] for _, row in self._signatures()]

    def _parameters(self):
        return [number for _, row in self._signatures() for number in row[0]]

    def place_of(self, shape, told):
        """The place of a part."""
        key = (shape, told)
        if key not in self._places:
            self._places[key] = len(self.parts)
            self.parts.append(key)
        return self._places[key]

    def _row(self, row, shape, told):
        """The row with one part more."""
        key = (row, self.place_of(shape, told))
        if key not in self._further:
            self._further[key] = self._new_row([key])
        return self._further[key]

    def _new_row(self, ways):
        self.rows.append(ways)
        return len(self.rows) - 1

    def _row_of_words(self, row, words):
        """The row with some words more."""
        for word in words:
            row = self._row(row, "word", word)
        return row

    def _make(self, shape, number, row):
        """Tell that a row makes a part."""
        self.ends.append((self.place_of(shape, number), row))

    def _add_names(self):
        for word, types in self._lore.names.items():
            for number in types:
                self._make("chain", number, self._row_of_words(0, [word]))

    def _add_calls(self):
        for word, (parameters, needed, result) in self._signatures():
            row = self._row_of_words(0, [word, "("])
            for many in range(len(parameters) + 1):
                if many > 0:
                    row = self._row(row, "expr", parameters[many - 1])
                if many >= needed:
                    self._make("chain", result, self._row_of_words(row, [")"]))
                if 0 < many < len(parameters):
                    row = self._row_of_words(row, [","])

    def _add_fields(self):
        for number in self.chains:
            for field, inner in self._lore.fields[number].items():
                row = self._row(0, "chain", number)
                self._make("chain", inner, self._row_of_words(row, [".", field]))

    def _add_expressions(self):
        for number in self.exprs:
            for own in self.chains:
                if self._lore.below(own, number):
                    self._make("expr", number, self._row(0, "chain", own))
            if self._lore.is_record(number):
                self._add_literal(number)

    def _add_literal(self, number):
        """The literal with the fields of a record, in any order: there is a row for each choice of some of them."""
        fields = self._lore.fields[number]
        rows = {(): self._row_of_words(0, ["{"])}
        for chosen in all_choices(list(fields))[1:]:
            ways = []
            for field in chosen:
                others = tuple([other for other in chosen if other != field])
                row = self._row_of_words(rows[others], ([","] if others else []) + [field, ":"])
                ways.append((row, self.place_of("expr", fields[field])))
            rows[chosen] = self._new_row(ways)
        self._make("expr", number, self._row_of_words(rows[tuple(list(fields))], ["}"]))


def all_choices(things):
    """All tuples of some of the things, in their order, each behind those with fewer of the same."""
    found = [()]
    for thing in things:
        found = found + [row + (thing,) for row in found]
    return found


def all_stretches(many):
    """The stretches of so many words, each behind those within it."""
    return [(last - length, last) for length in range(many + 1) for last in range(length, many + 1)]
