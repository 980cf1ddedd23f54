"""Which nodes of a text an edit leaves as they are, and which are new behind it."""

from typingroom.trees import read_text
from typingroom.words import checked_words


def nodes(words):
    """The list of the nodes of a whole text, ascending by their first places, then their last ones."""
    return nodes_of(checked_words(words))


def kept(words, edit):
    """The list of the pairs of a node that is kept, and of that behind the edit, in the order of the former."""
    old, new = nodes_around(words, edit)
    return kept_pairs(old, new, edit)


def anew(words, edit):
    """The ascending list of the nodes behind the edit that were not kept."""
    old, new = nodes_around(words, edit)
    known = {after: True for _, after in kept_pairs(old, new, edit)}
    return [node for node in new if node not in known]


def nodes_around(words, edit):
    """The nodes ahead of an edit, and behind it."""
    told = checked_words(words)
    behind = edit(told)
    return nodes_of(told), nodes_of(behind)


def nodes_of(words):
    """The list of the nodes of words and signs, of which there may be any number."""
    found = []
    for line in read_text(words):
        found.append(("give" if line.word is None else "let", line.first, line.last))
        for node in line.nodes:
            found.append((node.shape, node.first, node.last))
            found.extend([("of", node.first, last) for last in range(node.last + 2, node.end() + 1, 2)])
    return sorted(found, key=places_of)


def places_of(node):
    """The first and the last place of a node."""
    return node[1:]


def kept_pairs(old, new, edit):
    """The pairs of a node that is kept, and of that behind the edit."""
    known = {node: True for node in new}
    pairs = [(node, node_behind(node, edit)) for node in old]
    return [(node, after) for node, after in pairs if after in known]


def node_behind(node, edit):
    """Where a node would be behind an edit, None if it can not be kept."""
    kind, first, last = node
    if last <= edit.first:
        return node
    if first >= edit.last and first != edit.first:
        return (kind, first + edit.growth(), last + edit.growth())
    return None
