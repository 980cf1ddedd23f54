"""Which signatures the calls of a text can have, and whether a room has texts with more meanings than one."""

from typingroom.asking import Asking
from typingroom.errors import NotWhole
from typingroom.lore import Lore
from typingroom.making import Making
from typingroom.rooms import checked_room
from typingroom.trees import give_nodes
from typingroom.twoways import TwoWays
from typingroom.words import checked_words


def meanings(room, words):
    """The ascending list of the meanings of a text without lets."""
    asking = asking_of(room, checked_words(words))
    needs = asking.asked()
    rows = {}
    for node in reversed(asking.nodes):
        for need in needs[node]:
            rows[node, need] = meanings_of(asking, rows, node, need)
    return sorted([row for need in needs[asking.nodes[0]] for row in rows[asking.nodes[0], need]])


def asking_of(room, words):
    """What the expressions of a text without lets are asked."""
    lore = Lore(room)
    return Asking(lore, lore.names, give_nodes(words, 0))


def meanings_of(asking, rows, node, need):
    """The rows of the signatures' numbers with which a node fits a need, when those of its parts are found."""
    found = []
    for number, way in asking.ways(node, need):
        fronts = [() if number is None else (number,)]
        for part, inner in zip(node.parts, way):
            fronts = [front + row for front in fronts for row in rows[part, inner]]
        found.extend(fronts)
    return found


def is_meaning(asking, row):
    """Whether a tuple of numbers is a meaning."""
    calls = [node for node in asking.nodes if node.shape == "call"]
    if len(row) != len(calls):
        return False
    numbers = {node: number for node, number in zip(calls, row)}
    needs = {asking.nodes[0]: asking.goal}
    for node in asking.nodes:
        ways = [way for number, way in asking.ways(node, needs[node]) if number == numbers.get(node)]
        if not ways:
            return False
        for part, inner in zip(node.parts, ways[0]):
            needs[part] = inner
    return True


class Clear:
    """What all chains and literals of a room can be in two ways, by which no text has two meanings."""

    def __init__(self, chains, literals):
        self.chains = list(chains)
        self.literals = list(literals)

    def __eq__(self, other):
        if not isinstance(other, Clear):
            return NotImplemented
        return self.chains == other.chains and self.literals == other.literals

    def __bool__(self):
        return True

    def shows(self, room):
        """Whether this is such evidence for a room."""
        ways = TwoWays(checked_room(room))
        told = [ways.key_of("chain", triple) for triple in self.chains]
        told.extend([ways.key_of("literal", triple) for triple in self.literals])
        if None in told:
            return False
        # What follows from the triples that are told has to be told, too.
        known = {key: True for key in told}
        making = Making(ways, told)
        key = making.further()
        while key is not None:
            if key not in known or ways.is_double(key):
                return False
            key = making.further()
        return True


class Double:
    """A text without lets, and two of its meanings, the lesser one first."""

    def __init__(self, words, rows):
        self.words = list(words)
        self.rows = list(rows)

    def __eq__(self, other):
        if not isinstance(other, Double):
            return NotImplemented
        return self.words == other.words and self.rows == other.rows

    def __bool__(self):
        return False

    def shows(self, room):
        """Whether this is such evidence for a room."""
        checked_room(room)
        told = checked_words(self.words)
        if len(self.rows) != 2 or self.rows[0] >= self.rows[1]:
            return False
        try:
            asking = asking_of(room, told)
        except NotWhole:
            return False
        return all([is_meaning(asking, row) for row in self.rows])


def judge_meanings(room):
    """The evidence that no text without lets has two meanings, or that one has."""
    ways = TwoWays(checked_room(room))
    making = Making(ways, [])
    found = {"chain": [], "literal": []}
    key = making.further()
    while key is not None:
        if ways.is_double(key):
            return doubled(ways, making.agenda, key)
        found[key[0]].append(ways.triple_of(key))
        key = making.further()
    return Clear(sorted(found["chain"]), sorted(found["literal"]))


def doubled(ways, agenda, key):
    """The Double of an expression that was made in ways that differ."""
    found = agenda.unfolded(key)
    begun = [part for part in found if not isinstance(part, str) and part[0] == "begun" and part[2] == 0]
    pairs = [ways.rules[at].numbers for _, at, _, _ in begun if ways.rules[at].numbers is not None]
    words = [part for part in found if isinstance(part, str)]
    rows = sorted([tuple([one for one, _ in pairs]), tuple([other for _, other in pairs])])
    return Double(["give"] + words + [";"], rows)
