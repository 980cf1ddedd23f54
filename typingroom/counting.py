"""The endings of a text behind words of its give, counted and told by their numbers."""

from typingroom.errors import BadNumber, NotWhole
from typingroom.ends import frames_of
from typingroom.kinds import is_within
from typingroom.offering import alive_state, is_ending, room_reader
from typingroom.tally import Tally
from typingroom.words import checked_words

LONGEST_ENDING = 30


def state_in_give(room, words):
    """A reader of the room, and the state behind words that end within a give, or behind its word."""
    told = checked_words(words)
    reader = room_reader(room)
    state = alive_state(reader, told)
    frames = frames_of(state)
    if not frames or frames[0].word is not None:
        raise NotWhole(len(told))
    return reader, state


def endings(room, words, most):
    """The list of the numbers of endings with 1, 2, and so on, up to so many words."""
    reader, state = state_in_give(room, words)
    if not is_within(most, 0, LONGEST_ENDING):
        raise BadNumber("not from 0 to 30 words")
    tally = Tally(reader.lore, state, most)
    return [tally.counts(many)[many].get(tally.start, 0) for many in range(1, most + 1)]


def ending(room, words, many, number):
    """The ending with a number among those with so many words."""
    reader, state = state_in_give(room, words)
    if not is_within(many, 1, LONGEST_ENDING):
        raise BadNumber("not from 1 to 30 words")
    tally = Tally(reader.lore, state, many)
    tables = tally.counts(many)
    if not is_within(number, 0, tables[many].get(tally.start, 0) - 1):
        raise BadNumber("there is no ending with this number")
    return numbered_ending(tally, tables, number)


def numbered_ending(tally, tables, number):
    """The ending with a number, by the counts that tables tell for each number of words that are left."""
    words = []
    at = tally.start
    ahead = number
    for table in tables[-2::-1]:
        for word, further in tally.nexts(at):
            many = table.get(further, 0)
            if ahead < many:
                words.append(word)
                at = further
                break
            ahead = ahead - many
    return words


def number_of(room, words, more):
    """The number of an ending among those with as many words, None if a list of words is none."""
    told = checked_words(words)
    rest = checked_words(more)
    reader, state = state_in_give(room, told)
    if not is_ending(reader, state, rest):
        return None
    tally = Tally(reader.lore, state, len(rest))
    number = 0
    at = tally.start
    for word, table in zip(rest, tally.counts(len(rest))[-2::-1]):
        nexts = tally.nexts(at)
        number = number + sum([table.get(further, 0) for other, further in nexts if other < word])
        at = [further for other, further in nexts if other == word][0]
    return number
