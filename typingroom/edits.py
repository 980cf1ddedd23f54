"""Edits: words in the place of a stretch of words, and what they change of the answers at the places of a text."""

from typingroom.errors import BadEdit
from typingroom.kinds import is_whole
from typingroom.offering import answers_by, room_reader
from typingroom.words import checked_words, is_mark


class Edit:
    """Words in the place of those from a first place to, but not with, a last one."""

    def __init__(self, first, last, words):
        if not is_whole(first) or not is_whole(last) or not 0 <= first <= last:
            raise BadEdit("the places are not integers from 0, the first one not above the last one")
        if not isinstance(words, (list, tuple)) or not all([is_mark(word) for word in words]):
            raise BadEdit("not a list of words and signs")
        self.first = first
        self.last = last
        self.words = tuple(words)

    def __eq__(self, other):
        if not isinstance(other, Edit):
            return NotImplemented
        return self.first == other.first and self.last == other.last and self.words == other.words

    def __len__(self):
        return len(self.words)

    def __bool__(self):
        return bool(self.words) or bool(self.first < self.last)

    def __call__(self, words):
        """The list of the words behind the edit."""
        told = self._fitting(words)
        return told[:self.first] + list(self.words) + told[self.last:]

    def __add__(self, other):
        if not is_whole(other):
            raise BadEdit("not an integer to go further on")
        return Edit(self.first + other, self.last + other, self.words)

    def growth(self):
        """How many more words there are behind the edit."""
        return len(self.words) - (self.last - self.first)

    def undone(self, words):
        """The edit that leads back to these words."""
        told = self._fitting(words)
        return Edit(self.first, self.first + len(self.words), told[self.first:self.last])

    def _fitting(self, words):
        """A new list of words on which the edit can be done."""
        told = checked_words(words)
        if len(told) < self.last:
            raise BadEdit("there are fewer words than the last place")
        return told


def carried(one, other):
    """An edit as it is behind another one, None if their stretches overlap."""
    # Asked first, so that of two empty stretches at the same place the first one goes behind.
    if one.first >= other.last:
        return one + other.growth()
    return one + 0 if one.last <= other.first else None


def shrunk(words, more):
    """The edit from words to others that keeps as many of the first ones, and then of the last ones, as can be."""
    old = checked_words(words)
    new = checked_words(more)
    most = min(len(old), len(new))
    front = 0
    while front < most and old[front] == new[front]:
        front += 1
    back = 0
    while back < most - front and old[len(old) - 1 - back] == new[len(new) - 1 - back]:
        back += 1
    return Edit(front, len(old) - back, new[front:len(new) - back])


def answers(room, words):
    """The list of the answers at the places of words, and behind them."""
    told = checked_words(words)
    return answers_by(room_reader(room), told)


def stale(room, words, edit):
    """The ascending list of the places behind an edit where the answer is another one, or that lie in its words."""
    told = checked_words(words)
    behind = edit(told)
    reader = room_reader(room)
    old = answers_by(reader, told)
    new = answers_by(reader, behind)
    return [place for place in range(len(behind) + 1) if is_stale(edit, place, old, new)]


def is_stale(edit, place, old, new):
    """Whether a place behind an edit is stale, by the answers at all places before and behind it."""
    if place <= edit.first:
        return old[place] != new[place]
    if place < edit.first + len(edit.words):
        return True
    return old[place - edit.growth()] != new[place]
