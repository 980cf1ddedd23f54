"""What can follow words: where they are broken, what can stand next, and how a statement can be ended."""

from typingroom.ends import alive_step, ending_words, fewest_to_end, is_ended, with_table
from typingroom.errors import Dead
from typingroom.kinds import is_word
from typingroom.lore import Lore
from typingroom.reading import Reader, barred_words, begin, likely_words
from typingroom.rules import Rules
from typingroom.words import SIGNS, checked_words


def room_reader(room):
    """A reader that goes by the room alone.

    Whether an expression can fit a need does not depend on lets: what an expression with their names fits, one
    without them fits as well. So this reader tells which words are dead.
    """
    lore = Lore(room)
    return Reader(lore, Rules(lore, {}).fewest_table())


def read_on(reader, words):
    """The state behind words, and None; or None, and the place of the word behind which they are first dead."""
    state = begin()
    if fewest_to_end(reader, state) is None:
        return None, 0
    for place, word in enumerate(words):
        state = alive_step(reader, state, word)
        if state is None:
            return None, place
    return state, None


def alive_state(reader, words):
    """The state behind words that are not dead."""
    state, place = read_on(reader, words)
    if state is None:
        raise Dead(place)
    return state


def offers_along(reader, words):
    """The list of the Offers in front of each word, and behind the last one, as long as words are not dead."""
    found = []
    state = begin()
    if fewest_to_end(reader, state) is None:
        return found
    for word in words:
        found.append(offers_at(reader, state))
        state = alive_step(reader, state, word)
        if state is None:
            return found
    return found + [offers_at(reader, state)]


def answer_by(reader, words):
    """The Offers behind words, None if they are dead."""
    state, _ = read_on(reader, words)
    return None if state is None else offers_at(reader, state)


def answers_by(reader, words):
    """The list of the answers in front of each word, and behind the last one."""
    found = offers_along(reader, words)
    return found + [None] * (len(words) + 1 - len(found))


def answers_at(reader, words, places):
    """A dict from those of the places that the words have to the answers there."""
    found = {}
    state = begin()
    if fewest_to_end(reader, state) is None:
        state = None
    for place in range(len(words) + 1):
        if place in places:
            found[place] = None if state is None else offers_at(reader, state)
        if state is not None and place < len(words):
            state = alive_step(reader, state, words[place])
    return found


def broken(room, words):
    """The place of the first word behind which words are dead, None if they are not."""
    told = checked_words(words)
    _, place = read_on(room_reader(room), told)
    return place


class Offers:
    """What can stand next: the ascending list of words and signs, and None or the words that alone can not stand."""

    def __init__(self, words, but):
        self.words = list(words)
        self.but = None if but is None else list(but)

    def __eq__(self, other):
        if not isinstance(other, Offers):
            return NotImplemented
        return self.words == other.words and self.but == other.but

    def __contains__(self, word):
        return word in self.words or (self.but is not None and is_word(word) and word not in self.but)


def copied_answer(told):
    """A new answer that is equal to one."""
    return None if told is None else Offers(told.words, told.but)


def offers(room, words):
    """The Offers behind words."""
    told = checked_words(words)
    reader = room_reader(room)
    return offers_at(reader, alive_state(reader, told))


def offers_at(reader, state):
    """The Offers at a state."""
    likely = likely_words(reader, state)
    found = [word for word in likely if alive_step(reader, state, word) is not None]
    return Offers(found, barred_words(reader, state))


def completions(room, words, letters):
    """The ascending list of what can stand next, is no sign, and begins with these letters."""
    found = offers(room, words).words
    return [word for word in found if word not in SIGNS and word.startswith(letters)]


class Finishing:
    """Words that end a statement, as few as can be, and the table that shows that they are so few."""

    def __init__(self, words, table):
        self.words = list(words)
        self.table = {need: table[need] for need in table}

    def __eq__(self, other):
        if not isinstance(other, Finishing):
            return NotImplemented
        return self.words == other.words and self.table == other.table

    def __len__(self):
        return len(self.words)

    def shows(self, room, words):
        """Whether this is such evidence behind these words."""
        told = checked_words(words)
        reader = room_reader(room)
        state = alive_state(reader, told)
        if not is_ending(reader, state, self.words):
            return False
        rules = Rules(reader.lore, state.lets)
        table = {reader.lore.numbered(need): number for need, number in self.table.items()}
        if not all([need in table for need in rules.fewest_table()]) or rules.undercut(table):
            return False
        other, same = with_table(reader, state, table)
        return fewest_to_end(other, same) == len(self.words)


def is_ending(reader, state, words):
    """Whether words end the statement at hand, with their last one alone."""
    if is_ended(state) and words[:1] != ["give"]:
        return False
    ended = False
    for word in words:
        if ended:
            return False
        state = alive_step(reader, state, word)
        if state is None:
            return False
        ended = is_ended(state)
    return ended


def finish(room, words):
    """The Finishing behind words that are no right text."""
    told = checked_words(words)
    reader = room_reader(room)
    state = alive_state(reader, told)
    table = Rules(reader.lore, state.lets).fewest_table()
    other, same = with_table(reader, state, table)
    kinds = reader.lore.kinds
    return Finishing(ending_words(other, same), {kinds[need]: number for need, number in table.items()})
