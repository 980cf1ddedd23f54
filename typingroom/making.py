"""Making all expressions of rooms one behind the other, those with the fewest words first.

Expressions that are alike, by what is asked of them, have one key, a tuple that begins with "chain" or "literal". What
is asked is told by a subject: it has `names`, a list of pairs of a word and its key; `rules`, the ways to make an
expression of others; and the methods `of_fields`, the pairs of a field and the key of a chain with it, and `fits_of`,
all that matters of an expression where it stands in another one.
"""

from typingroom.agenda import Agenda


class Making:
    """What was made of a subject; `agenda` tells of what."""

    def __init__(self, subject, given):
        self.agenda = Agenda()
        self._subject = subject
        self._fits = {}
        # For each rule and place what was begun and is due there, and a key for all that can be given there.
        self._begun = [[[] for _ in rule.ahead] for rule in subject.rules]
        self._gifts = [[{} for _ in rule.ahead] for rule in subject.rules]
        for key in given:
            self.agenda.offer(key, 0, [])
        for word, key in subject.names:
            self.agenda.offer(key, 1, [word])
        for at, rule in enumerate(subject.rules):
            self.agenda.offer(("begun", at, 0, rule.start), len(rule.front), rule.front)

    def further(self):
        """The key of one more expression, None if there is none."""
        key = self.agenda.take()
        while key is not None and key[0] == "begun":
            self._go_on(key)
            key = self.agenda.take()
        if key is not None:
            self._use(key)
        return key

    def _go_on(self, key):
        """End what was begun, and give it one part more."""
        _, at, many, state = key
        rule = self._subject.rules[at]
        ended = rule.ended(many, state)
        if ended is not None:
            self.agenda.offer(ended, self.agenda.numbers[key] + 1, [key, rule.back])
        if many < len(rule.ahead):
            self._begun[at][many].append(key)
            for gift, part in self._gifts[at][many].items():
                self._join(key, gift, part)

    def _use(self, key):
        """Take fields of a new expression, and put it wherever it gives what no other one gave."""
        for field, other in self._subject.of_fields(key):
            self.agenda.offer(other, self.agenda.numbers[key] + 2, [key, ".", field])
        fits = self._subject.fits_of(key)
        if fits in self._fits:
            return
        self._fits[fits] = True
        for at, rule in enumerate(self._subject.rules):
            for place in range(len(rule.ahead)):
                gift = rule.gift(place, fits)
                if gift is not None and gift not in self._gifts[at][place]:
                    self._gifts[at][place][gift] = key
                    for begun in self._begun[at][place]:
                        self._join(begun, gift, key)

    def _join(self, begun, gift, part):
        """Put a part that gives so much behind what was begun."""
        _, at, many, state = begun
        rule = self._subject.rules[at]
        after = rule.joined(state, gift)
        if after is not None:
            number = self.agenda.numbers[begun] + len(rule.ahead[many]) + self.agenda.numbers[part]
            self.agenda.offer(("begun", at, many + 1, after), number, [begun] + rule.ahead[many] + [part])


def words_ahead(fields):
    """For each field of a literal, the words and signs in front of its expression, but for the brace."""
    rows = [[field, ":"] for field in fields]
    return [row if place == 0 else [","] + row for place, row in enumerate(rows)]


def commas_ahead(many):
    """For each of so many arguments, the signs in front of it, but for the parenthesis."""
    return [[] if place == 0 else [","] for place in range(many)]
