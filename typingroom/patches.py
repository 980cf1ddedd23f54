"""Patches: what edits do for all words, and whether the patches of several hands go together."""

from typingroom.edits import Edit
from typingroom.errors import BadEdit
from typingroom.kinds import is_whole
from typingroom.pieces import changes_of, edited, pieces_of, uncut
from typingroom.words import checked_words, is_mark

MOST_EDITS = 60


class Patch:
    """Changes, ascending and apart, of all words that are not fewer than the least number."""

    def __init__(self, changes, least):
        if not isinstance(changes, tuple) or not all([is_change(change) for change in changes]):
            raise BadEdit("not changes alone")
        if not all([one[1] < other[0] for one, other in zip(changes, changes[1:])]):
            raise BadEdit("the changes are not ascending and apart")
        if not is_whole(least) or least < max([last for _, last, _ in changes], default=0):
            raise BadEdit("not a number of words for all changes")
        self.changes = changes
        self.least = least

    def __eq__(self, other):
        if not isinstance(other, Patch):
            return NotImplemented
        return self.changes == other.changes and self.least == other.least

    def __len__(self):
        return len(self.changes)

    def __iter__(self):
        return iter(self.changes)

    def __bool__(self):
        return bool(self.changes)

    def __call__(self, words):
        """The list of the words behind the patch."""
        told = checked_words(words)
        if len(told) < self.least:
            raise BadEdit("there are fewer words than the least number")
        for first, last, more in self.changes[::-1]:
            told = told[:first] + list(more) + told[last:]
        return told

    def growth(self):
        """How many more words there are behind the patch."""
        return sum([growth_of(change) for change in self.changes])

    def edits(self):
        """A list of edits that do the same, one behind the other, as few as can be."""
        # From the last change on, so that each one is done at the places of its own.
        return [Edit(first, last, words) for first, last, words in self.changes[::-1]]


class Together:
    """The patch of two hands, and what each one has still to do behind the other one."""

    def __init__(self, whole, one, other):
        self.whole = copied(whole)
        self.one = copied(one)
        self.other = copied(other)

    def __eq__(self, other):
        if not isinstance(other, Together):
            return NotImplemented
        return self.whole == other.whole and self.one == other.one and self.other == other.other

    def __bool__(self):
        return True


class Clash:
    """The numbers of the first changes of two hands that do not go together."""

    def __init__(self, one, other):
        self.one = one
        self.other = other

    def __eq__(self, other):
        if not isinstance(other, Clash):
            return NotImplemented
        return self.one == other.one and self.other == other.other

    def __bool__(self):
        return False


def copied(told):
    """A new patch that is equal to one."""
    return Patch(told.changes, told.least)


def is_change(thing):
    """Whether a value is a change."""
    if not isinstance(thing, tuple) or len(thing) != 3:
        return False
    first, last, words = thing
    if not is_whole(first) or not is_whole(last) or not 0 <= first <= last:
        return False
    if not isinstance(words, tuple) or not all([is_mark(word) for word in words]):
        return False
    return first < last or len(words) > 0


def growth_of(change):
    """How many more words a change puts in than it takes out."""
    return len(change[2]) - (change[1] - change[0])


def patch(edits):
    """The Patch that does for all words what edits do, one behind the other."""
    if not isinstance(edits, (list, tuple)) or len(edits) > MOST_EDITS:
        raise BadEdit("not a list of at most 60 edits")
    if not all([isinstance(edit, Edit) for edit in edits]):
        raise BadEdit("not edits alone")
    pieces = uncut()
    least = 0
    growth = 0
    for edit in edits:
        least = max(least, edit.last - growth)
        growth += edit.growth()
        pieces = edited(pieces, edit.first, edit.last, edit.words)
    return Patch(changes_of(pieces), least)


def check_patches(patches):
    """Refuse what are not patches alone."""
    if not all([isinstance(told, Patch) for told in patches]):
        raise BadEdit("not patches alone")


def behind(one, other):
    """The patch that does one, and then another one."""
    check_patches([one, other])
    pieces = pieces_of(one.changes)
    for first, last, words in other.changes[::-1]:
        pieces = edited(pieces, first, last, words)
    return Patch(changes_of(pieces), max(one.least, other.least - one.growth()))


def together(one, other):
    """The Together of the patches of two hands on the same words, or their Clash."""
    check_patches([one, other])
    for number, change in enumerate(one.changes):
        for place, more in enumerate(other.changes):
            if not go_together(change, more):
                return Clash(number, place)
    return Together(all_of([one, other]), rest_behind(one, other), rest_behind(other, one))


def go_together(one, other):
    """Whether changes of two hands go together."""
    if one == other:
        return True
    if one[1] <= other[0] or other[1] <= one[0]:
        # With the same stretch, both put in at the same place, and take nothing out.
        return one[:2] != other[:2]
    return False


def all_of(patches):
    """The patch with the changes of several ones, which go together."""
    # Of two changes that begin at the same place one takes nothing out, and so comes first.
    changes = sorted({change: True for told in patches for change in told.changes})
    return Patch(as_one(changes), max([told.least for told in patches], default=0))


def as_one(changes):
    """The tuple of changes, of which those that touch are one."""
    found = []
    for first, last, words in changes:
        if found and found[-1][1] == first:
            before = found.pop()
            found.append((before[0], last, before[2] + words))
        else:
            found.append((first, last, words))
    return tuple(found)


def rest_behind(one, other):
    """The patch that a hand has still to do behind that of the other one."""
    changes = []
    for first, last, words in one.changes:
        if (first, last, words) not in other.changes:
            ahead = [change for change in other.changes if change[1] <= first]
            more = sum([growth_of(change) for change in ahead])
            changes.append((first + more, last + more, words))
    return Patch(as_one(changes), max(one.least, other.least) + other.growth())


def all_together(patches):
    """The patch of several hands on the same words, or the pair of the numbers of the first two that clash."""
    if not isinstance(patches, (list, tuple)):
        raise BadEdit("not a list of patches")
    check_patches(patches)
    for number, told in enumerate(patches):
        for before in range(number):
            if not together(patches[before], told):
                return (before, number)
    return all_of(patches)
