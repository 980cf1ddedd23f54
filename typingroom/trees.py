"""Gives as trees, of texts that are whole and have right lets."""

from typingroom.errors import NotWhole
from typingroom.kinds import is_word
from typingroom.reading import begin, step
from typingroom.words import HOLE


class Node:
    """An expression: a "name" (also a hole), a "call" or a "literal".

    The parts are the arguments, or the expressions of the fields; the path has the fields that are taken of a chain.
    """

    def __init__(self, shape, word):
        self.shape = shape
        self.word = word
        self.fields = []
        self.parts = []
        self.path = []


class Parser:
    """Words that are read from a place on; `nodes` has the expressions, each ahead of its parts."""

    def __init__(self, words, at):
        self.words = words
        self.at = at
        self.nodes = []

    def word_here(self):
        """What comes, None at the end."""
        return self.words[self.at] if self.at < len(self.words) else None

    def take(self, word):
        """Go over what has to come: this word or sign, or None, the end."""
        if self.word_here() != word:
            raise NotWhole(self.at)
        self.at += 1

    def take_if(self, word):
        """Go over this word or sign, if it comes, and tell whether it did."""
        if self.word_here() != word:
            return False
        self.at += 1
        return True

    def take_word(self):
        """Go over a word, and return it."""
        word = self.word_here()
        if not is_word(word):
            raise NotWhole(self.at)
        self.at += 1
        return word

    def node(self, shape, word):
        """A new node."""
        found = Node(shape, word)
        self.nodes.append(found)
        return found


def read_lets(reader, words):
    """What the names of a text's lets are, and the place of its give, if it has one and all lets are right."""
    state = begin()
    for place, word in enumerate(words):
        if state.mode == "statement" and word == "give":
            return state.lets, place
        state = step(reader, state, word)
        if state is None:
            raise NotWhole(place)
    raise NotWhole(len(words))


def give_nodes(words, place):
    """The nodes of a give with which words end, each ahead of its parts."""
    parser = Parser(words, place)
    parser.take("give")
    read_expression(parser)
    parser.take(";")
    parser.take(None)
    return parser.nodes


def read_expression(parser):
    """Read an expression; without recursion, as a text may open very many."""
    opened = []
    while True:
        node = begun_node(parser, opened)
        while node is not None:
            if not opened:
                return
            node = further_node(parser, opened, node)


def begun_node(parser, opened):
    """Read an expression without parts, or the beginning of another one, up to its first part (then None)."""
    if parser.take_if("{"):
        literal = parser.node("literal", None)
        if parser.take_if("}"):
            return literal
        opened.append(literal)
        read_field(parser, literal)
        return None
    if parser.take_if(HOLE):
        return with_path(parser, parser.node("name", HOLE))
    word = parser.take_word()
    if not parser.take_if("("):
        return with_path(parser, parser.node("name", word))
    call = parser.node("call", word)
    if parser.take_if(")"):
        return with_path(parser, call)
    opened.append(call)
    return None


def further_node(parser, opened, part):
    """Read on behind a part of the innermost expression: the whole expression, None if a further part comes."""
    node = opened[-1]
    node.parts.append(part)
    if parser.take_if(","):
        if node.shape == "literal":
            read_field(parser, node)
        return None
    parser.take("}" if node.shape == "literal" else ")")
    opened.pop()
    return node if node.shape == "literal" else with_path(parser, node)


def read_field(parser, literal):
    """Read a field of a literal, and its colon."""
    literal.fields.append(parser.take_word())
    parser.take(":")


def with_path(parser, chain):
    """Read the fields that are taken of a chain, and return it."""
    while parser.take_if("."):
        chain.path.append(parser.take_word())
    return chain
