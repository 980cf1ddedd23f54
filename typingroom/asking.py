"""What the expressions of a whole give are asked to fit, from the outside inwards.

Each expression is asked to fit some needs: the goal, the types of a field of a literal, or those of an argument, one
for each signature that the call can have.
"""

from typingroom.lore import each_once


class Asking:
    """The nodes of a give, each ahead of its parts, with the own types of names."""

    def __init__(self, lore, names, nodes):
        self.nodes = nodes
        self.goal = lore.goal
        self._lore = lore
        self._names = names

    def asked(self):
        """A dict from the nodes to the lists of the needs that they can be asked to fit."""
        waiting = {node: [] for node in self.nodes}
        waiting[self.nodes[0]].append(self.goal)
        needs = {}
        for node in self.nodes:
            asked = each_once(waiting[node])
            needs[node] = asked
            for need in asked:
                for _, way in self.ways(node, need):
                    for part, inner in zip(node.parts, way):
                        waiting[part].append(inner)
        return needs

    def ways(self, node, need):
        """How a node can fit a need: pairs of its signature's number, None for no call, and the needs of its parts.

        There are none for a hole, which has no own types.
        """
        if node.shape == "literal":
            return self._literal_ways(node, need)
        if node.shape == "call":
            return self._call_ways(node, need)
        return [(None, ()) for kind in self._names.get(node.word, []) if self._leads(kind, node.path, need)]

    def _literal_ways(self, node, need):
        fields = self._lore.fields[need]
        if not self._lore.is_record(need) or sorted(node.fields) != sorted(fields):
            return []
        return [(None, tuple([fields[field] for field in node.fields]))]

    def _call_ways(self, node, need):
        many = len(node.parts)
        rows = list(enumerate(self._lore.functions.get(node.word, [])))
        rows = [(number, row) for number, row in rows if row[1] <= many <= len(row[0])]
        return [(number, row[0][:many]) for number, row in rows if self._leads(row[2], node.path, need)]

    def _leads(self, kind, path, need):
        """Whether a type has these fields, one in the other, and the last one's type is below a need."""
        at = kind
        for field in path:
            if field not in self._lore.fields[at]:
                return False
            at = self._lore.fields[at][field]
        return self._lore.below(at, need)
