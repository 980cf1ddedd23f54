"""Which types the names in the holes of a text can have.

Going outside in, each expression of the give is asked to fit some needs: the goal, the types of a field of a literal,
or those of an argument, one for each signature that the call can have. So a type fits a hole if and only if it is
below one of finitely many types.
"""

from typingroom.checking import plain_reader
from typingroom.errors import NotWhole
from typingroom.kinds import DEEPEST, is_type, nesting
from typingroom.lore import each_once
from typingroom.trees import give_nodes, read_lets
from typingroom.words import HOLE, checked_holed


class Fillings:
    """The rows of types that go in the holes of a whole text with right lets."""

    def __init__(self, room, words):
        told = checked_holed(words)
        reader = plain_reader(room)
        lets, place = read_lets(reader, told)
        self.lore = reader.lore
        self._names = {**self.lore.names, **lets}
        self._nodes = give_nodes(told, place)
        self.many = len([node for node in self._nodes if node.word == HOLE])
        if self.many == 0:
            raise NotWhole(len(told))
        self._rows = {}

    def greatest(self):
        """The ascending list of the greatest rows."""
        kinds = self.lore.kinds
        return sorted([tuple([kinds[number] for number in row]) for row in self._greatest_numbers()])

    def takes(self, kinds):
        """Whether a row of types goes."""
        if len(kinds) != self.many or not all([is_type(kind) for kind in kinds]):
            return False
        row = tuple([self.lore.numbered(kind) for kind in kinds])
        return any([self._is_below(row, other) for other in self._greatest_numbers()])

    def _greatest_numbers(self):
        """The greatest rows, as tuples of the numbers of types."""
        needs = self._asked()
        for node in reversed(self._nodes):
            for need in needs[node]:
                self._rows[node, need] = self._rows_of(node, need)
        return self._rows[self._nodes[0], self.lore.goal]

    def _asked(self):
        """A dict from the nodes to the lists of the needs that they can be asked to fit."""
        waiting = {node: [] for node in self._nodes}
        waiting[self._nodes[0]].append(self.lore.goal)
        needs = {}
        for node in self._nodes:
            asked = each_once(waiting[node])
            needs[node] = asked
            for need in asked:
                for way in self._ways_of(node, need):
                    for part, inner in zip(node.parts, way):
                        waiting[part].append(inner)
        return needs

    def _ways_of(self, node, need):
        """The rows of needs of a node's parts with which it fits a need; none for a hole, which has no own types."""
        if node.shape == "literal":
            return self._literal_ways(node, need)
        if node.shape == "call":
            return self._call_ways(node, need)
        return [() for kind in self._names.get(node.word, []) if self._leads(kind, node.path, need)]

    def _literal_ways(self, node, need):
        fields = self.lore.fields[need]
        if not self.lore.is_record(need) or sorted(node.fields) != sorted(fields):
            return []
        return [tuple([fields[field] for field in node.fields])]

    def _call_ways(self, node, need):
        many = len(node.parts)
        rows = self.lore.functions.get(node.word, [])
        rows = [row for row in rows if row[1] <= many <= len(row[0]) and self._leads(row[2], node.path, need)]
        return [row[0][:many] for row in rows]

    def _leads(self, kind, path, need):
        """Whether a type has these fields, one in the other, and the last one's type is below a need."""
        at = kind
        for field in path:
            if field not in self.lore.fields[at]:
                return False
            at = self.lore.fields[at][field]
        return self.lore.below(at, need)

    def _rows_of(self, node, need):
        """The greatest rows for the holes in a node with which it fits a need, when those of its parts are found."""
        if node.word == HOLE:
            return self._hole_rows(node, need)
        found = []
        for way in self._ways_of(node, need):
            rows = [()]
            for part, inner in zip(node.parts, way):
                rows = [row + more for row in rows for more in self._rows[part, inner]]
            found.extend(rows)
        return self._without_lesser(each_once(found))

    def _hole_rows(self, node, need):
        """The row of the greatest type that leads by the hole's path to one below a need, if it is one."""
        if len(node.path) + nesting(self.lore.kinds[need]) > DEEPEST:
            return []
        number = need
        for field in reversed(node.path):
            number = self.lore.record({field: number})
        return [(number,)]

    def _without_lesser(self, rows):
        """Those of some different rows that are below no other one."""
        return [row for row in rows if not any([other != row and self._is_below(row, other) for other in rows])]

    def _is_below(self, row, other):
        """Whether the types of a row are below those of another one."""
        return all([self.lore.below(one, need) for one, need in zip(row, other)])
