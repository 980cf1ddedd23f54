"""Which types the names in the holes of a text can have.

Going outside in, each expression of the give is asked to fit some needs, and so is each hole. So a type fits a hole if
and only if it is below one of finitely many types.
"""

from typingroom.asking import Asking
from typingroom.checking import plain_reader
from typingroom.errors import NotWhole
from typingroom.kinds import DEEPEST, is_type, nesting
from typingroom.lore import each_once
from typingroom.trees import give_nodes, read_lets
from typingroom.words import HOLE, checked_holed


class Fillings:
    """The rows of types that go in the holes of a whole text with right lets."""

    def __init__(self, room, words):
        told = checked_holed(words)
        reader = plain_reader(room)
        lets, place = read_lets(reader, told)
        self.lore = reader.lore
        self._asking = Asking(self.lore, {**self.lore.names, **lets}, give_nodes(told, place))
        self.many = len([node for node in self._asking.nodes if node.word == HOLE])
        if self.many == 0:
            raise NotWhole(len(told))
        self._rows = {}

    def greatest(self):
        """The ascending list of the greatest rows."""
        kinds = self.lore.kinds
        return sorted([tuple([kinds[number] for number in row]) for row in self._greatest_numbers()])

    def takes(self, kinds):
        """Whether a row of types goes."""
        if len(kinds) != self.many or not all([is_type(kind) for kind in kinds]):
            return False
        row = tuple([self.lore.numbered(kind) for kind in kinds])
        return any([self._is_below(row, other) for other in self._greatest_numbers()])

    def _greatest_numbers(self):
        """The greatest rows, as tuples of the numbers of types."""
        needs = self._asking.asked()
        for node in reversed(self._asking.nodes):
            for need in needs[node]:
                self._rows[node, need] = self._rows_of(node, need)
        return self._rows[self._asking.nodes[0], self.lore.goal]

    def _rows_of(self, node, need):
        """The greatest rows for the holes in a node with which it fits a need, when those of its parts are found."""
        if node.word == HOLE:
            return self._hole_rows(node, need)
        found = []
        for _, way in self._asking.ways(node, need):
            rows = [()]
            for part, inner in zip(node.parts, way):
                rows = [row + more for row in rows for more in self._rows[part, inner]]
            found.extend(rows)
        return self._without_lesser(each_once(found))

    def _hole_rows(self, node, need):
        """The row of the greatest type that leads by the hole's path to one below a need, if it is one."""
        if len(node.path) + nesting(self.lore.kinds[need]) > DEEPEST:
            return []
        number = need
        for field in reversed(node.path):
            number = self.lore.record({field: number})
        return [(number,)]

    def _without_lesser(self, rows):
        """Those of some different rows that are below no other one."""
        return [row for row in rows if not any([other != row and self._is_below(row, other) for other in rows])]

    def _is_below(self, row, other):
        """Whether the types of a row are below those of another one."""
        return all([self.lore.below(one, need) for one, need in zip(row, other)])
