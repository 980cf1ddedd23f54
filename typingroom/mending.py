"""With how few changes words are made an expression that fits a type."""

from typingroom.charts import Chart, changes_between
from typingroom.errors import BadType, TooLarge
from typingroom.frames import Statement
from typingroom.kinds import is_type
from typingroom.lore import Lore
from typingroom.reading import Reader, State, step
from typingroom.recipes import Recipes, all_stretches
from typingroom.words import checked_words

MOST_MENDED = 14


class Mend:
    """The words of an expression, the number of changes, and the tables that show that these are so few."""

    def __init__(self, words, number, chains, exprs):
        self.words = list(words)
        self.number = number
        self.chains = {key: chains[key] for key in chains}
        self.exprs = {key: exprs[key] for key in exprs}

    def __eq__(self, other):
        if not isinstance(other, Mend):
            return NotImplemented
        if self.words != other.words or self.number != other.number:
            return False
        return self.chains == other.chains and self.exprs == other.exprs

    def shows(self, room, words, need):
        """Whether this is such evidence for these words and a type."""
        told = checked_mend(words, need)
        lore = Lore(room)
        kind = lore.numbered(need)
        if not is_expression(lore, kind, self.words) or changes_between(told, self.words) != self.number:
            return False
        recipes = Recipes(lore, kind)
        chart = Chart(recipes, told)
        if not put_all(chart, lore, len(told), "chain", recipes.chains, self.chains):
            return False
        if not put_all(chart, lore, len(told), "expr", recipes.exprs, self.exprs):
            return False
        return chart.number_for("expr", kind, (0, len(told))) == self.number and not chart.is_undercut()


def mend(room, words, need):
    """The Mend of words for a type, None if no expression fits it."""
    told = checked_mend(words, need)
    lore = Lore(room)
    kind = lore.numbered(need)
    recipes = Recipes(lore, kind)
    chart = Chart(recipes, told)
    chart.fill()
    number = chart.number_for("expr", kind, (0, len(told)))
    if number is None:
        return None
    chains = all_numbers(chart, lore, len(told), "chain", recipes.chains)
    exprs = all_numbers(chart, lore, len(told), "expr", recipes.exprs)
    return Mend(chart.expression(kind), number, chains, exprs)


def checked_mend(words, need):
    """A new list of the words that were given, when they can be mended for a type."""
    told = checked_words(words)
    if not is_type(need):
        raise BadType("not a type")
    if len(told) > MOST_MENDED:
        raise TooLarge("more than 14 words")
    return told


def is_expression(lore, need, words):
    """Whether strings are an expression that fits a need."""
    reader = Reader(lore, {})
    state = State("expression", Statement(need, None), {})
    for word in list(words) + [";"]:
        state = step(reader, state, word)
        if state is None:
            return False
    return state.mode == "whole"


def all_numbers(chart, lore, many, shape, numbers):
    """The table of the numbers of changes for these types and all stretches of so many words."""
    table = {}
    for number in numbers:
        for stretch in all_stretches(many):
            told = chart.number_for(shape, number, stretch)
            if told is not None:
                table[lore.kinds[number], stretch] = told
    return table


def put_all(chart, lore, many, shape, numbers, table):
    """Put the numbers of a table into a chart, and tell whether they are for these types and such stretches."""
    stretches = {stretch: True for stretch in all_stretches(many)}
    for (kind, stretch), told in table.items():
        number = lore.numbered(kind)
        if number not in numbers or stretch not in stretches:
            return False
        chart.put(shape, number, stretch, told)
    return True
