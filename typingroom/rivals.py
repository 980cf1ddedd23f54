"""Whether two rooms have the same right texts without lets, and what a room can do without."""

from typingroom.checking import is_right_text
from typingroom.making import Making
from typingroom.rooms import Room, checked_room
from typingroom.sides import Sides


class Same:
    """The classes of all chains and of all literals of two rooms, by which no text is right in one of them alone."""

    def __init__(self, chains, literals):
        self.chains = list(chains)
        self.literals = list(literals)

    def __eq__(self, other):
        if not isinstance(other, Same):
            return NotImplemented
        return self.chains == other.chains and self.literals == other.literals

    def __bool__(self):
        return True

    def shows(self, one, other):
        """Whether this is such evidence for two rooms."""
        sides = Sides(checked_room(one), checked_room(other))
        told = [sides.key_of("chain", pair) for pair in self.chains]
        told.extend([sides.key_of("literal", pair) for pair in self.literals])
        if None in told:
            return False
        # What is made of the classes that are told has to be told, too.
        known = {key: True for key in told}
        making = Making(sides, told)
        key = making.further()
        while key is not None:
            if key not in known or sides.are_parted(key):
                return False
            key = making.further()
        return True


class Unlike:
    """A text without lets that is right in one of two rooms alone."""

    def __init__(self, words):
        self.words = list(words)

    def __eq__(self, other):
        if not isinstance(other, Unlike):
            return NotImplemented
        return self.words == other.words

    def __bool__(self):
        return False

    def shows(self, one, other):
        """Whether this is such evidence for two rooms."""
        rooms = [checked_room(one), checked_room(other)]
        if "let" in self.words:
            return False
        # The words of evidence can be more than those of texts that are given.
        found = [is_right_text(room, self.words) for room in rooms]
        return found[0] != found[1]


def judge_rooms(one, other):
    """The evidence that two rooms are alike, or that they are not."""
    sides = Sides(checked_room(one), checked_room(other))
    making = Making(sides, [])
    found = {"chain": [], "literal": []}
    key = making.further()
    while key is not None:
        if sides.are_parted(key):
            return Unlike(["give"] + making.agenda.spelled(key) + [";"])
        found[key[0]].append(sides.class_of(key))
        key = making.further()
    return Same(sorted(found["chain"]), sorted(found["literal"]))


def needless(room):
    """The list of the needless names, ascending, and then of the needless signatures, ascending."""
    return [thing for thing in all_things(checked_room(room)) if is_needless(room, thing)]


def lean_room(room):
    """The room without what is needless, from the last signature to the first name."""
    left = checked_room(room)
    for thing in all_things(room)[::-1]:
        if is_needless(left, thing):
            left = room_without(left, thing)
    return room_without(left, None)


def all_things(room):
    """The list of the names of a room, ascending, and then of its signatures, ascending."""
    rows = [(word, number) for word in sorted(room.functions) for number in range(len(room.functions[word]))]
    return sorted(room.names) + rows


def is_needless(room, thing):
    """Whether a room is alike without a name or a signature."""
    return isinstance(judge_rooms(room, room_without(room, thing)), Same)


def room_without(room, thing):
    """A new room without a name, or without a signature."""
    order = [(base, upper) for base, above in room.above.items() for upper in above]
    names = {name: room.names[name] for name in room.names if name != thing}
    functions = {}
    for word, signatures in room.functions.items():
        left = [row for number, row in enumerate(signatures) if (word, number) != thing]
        if left:
            functions[word] = left
    return Room(list(room.above), order, names, functions, room.goal)
