"""Which states behind beginnings of words are worth keeping, for questions and edits that are known ahead."""

from typingroom.errors import BadNumber, BadPlan
from typingroom.kinds import is_within

MOST_DEEDS = 12
LAST_PLACE = 12
MOST_KEPT = 3


class Plan:
    """What is kept behind each deed, how many words are read in all, and the table that shows that these are so few."""

    def __init__(self, rows, number, table):
        self.rows = list(rows)
        self.number = number
        self.table = {pair: table[pair] for pair in table}

    def __eq__(self, other):
        if not isinstance(other, Plan):
            return NotImplemented
        return self.rows == other.rows and self.number == other.number and self.table == other.table

    def __len__(self):
        return len(self.rows)

    def shows(self, deeds, most):
        """Whether this is such evidence for deeds, and so many states that can be kept."""
        told = checked_deeds(deeds, most)
        if words_by(told, most, self.rows) != self.number:
            return False
        pairs = all_pairs(told, most)
        if len(pairs) != len(self.table) or not all([pair in self.table for pair in pairs]):
            return False
        if pairs and self.table[pairs[0]] != self.number:
            return False
        return all([self.table[pair] <= least_behind(told, most, self.table, pair) for pair in pairs])


def plan(deeds, most):
    """The Plan for deeds, and so many states that can be kept."""
    told = checked_deeds(deeds, most)
    pairs = all_pairs(told, most)
    table = {}
    for pair in reversed(pairs):
        table[pair] = least_behind(told, most, table, pair)
    rows = best_rows(told, most, table)
    return Plan(rows, words_by(told, most, rows), {pair: table[pair] for pair in pairs})


def checked_deeds(deeds, most):
    """A new list of the deeds that were given."""
    if not isinstance(deeds, (list, tuple)) or len(deeds) > MOST_DEEDS:
        raise BadPlan("not a list of at most 12 deeds")
    if not all([is_deed(deed) for deed in deeds]):
        raise BadPlan("not deeds alone")
    if not is_within(most, 0, MOST_KEPT):
        raise BadNumber("not from 0 to 3 states")
    return list(deeds)


def is_deed(thing):
    """Whether a value is a deed."""
    if not isinstance(thing, tuple) or len(thing) != 2:
        return False
    return thing[0] in ("ask", "edit") and is_within(thing[1], 0, LAST_PLACE)


def nearest(kept, place):
    """The place from which is read on to a place."""
    return max([at for at in kept if at <= place], default=0)


def words_of(deed, kept):
    """How many words are read for a deed, when these places are kept."""
    return deed[1] - nearest(kept, deed[1]) if deed[0] == "ask" else 0


def choices(deed, kept, most):
    """The tuples of places of which one is kept behind a deed, when these were kept ahead of it."""
    place = deed[1]
    if deed[0] == "edit":
        return [tuple([at for at in kept if at <= place])]
    # No place that is kept lies behind the nearest one, and up to the one asked.
    return some_of(sorted(list(kept) + list(range(nearest(kept, place) + 1, place + 1))), most)


def some_of(places, most):
    """All tuples of at most so many of the places, in their order."""
    rows = [()]
    for place in places:
        rows = rows + [row + (place,) for row in rows if len(row) < most]
    return rows


def all_pairs(deeds, most):
    """The pairs of a number of deeds and the places kept then that can come up, but for those at the end."""
    found = []
    now = [()]
    for done, deed in enumerate(deeds):
        found.extend([(done, kept) for kept in now])
        now = list({row: True for kept in now for row in choices(deed, kept, most)})
    return found


def least_behind(deeds, most, table, pair):
    """The least number of words, by the table's numbers for what is behind the next deed."""
    done, kept = pair
    deed = deeds[done]
    further = 0
    if done + 1 < len(deeds):
        further = min([table[done + 1, row] for row in choices(deed, kept, most)])
    return words_of(deed, kept) + further


def best_rows(deeds, most, table):
    """What is kept behind each deed, so that as few words are read as the table tells."""
    rows = []
    kept = ()
    for done, deed in enumerate(deeds):
        ways = choices(deed, kept, most)
        if done + 1 < len(deeds):
            least = min([table[done + 1, row] for row in ways])
            ways = [row for row in ways if table[done + 1, row] == least]
        kept = ways[0]
        rows.append(kept)
    return rows


def words_by(deeds, most, rows):
    """How many words are read in all when these places are kept, None if they can not be."""
    if len(rows) != len(deeds):
        return None
    number = 0
    kept = ()
    for deed, row in zip(deeds, rows):
        if row not in choices(deed, kept, most):
            return None
        number += words_of(deed, kept)
        kept = row
    return number
