"""Whole texts as trees."""

from typingroom.errors import NotWhole
from typingroom.kinds import is_word
from typingroom.reading import begin, step
from typingroom.words import HOLE


class Node:
    """An expression: a "name" (also a hole), a "call" or a "literal".

    The parts are the arguments, or the expressions of the fields; the path has the fields that are taken of a chain.
    The places are those of its first word and behind its last one, without these fields.
    """

    def __init__(self, shape, word, first):
        self.shape = shape
        self.word = word
        self.fields = []
        self.parts = []
        self.path = []
        self.first = first
        self.last = first

    def end(self):
        """The place behind the last one of the fields that are taken of it."""
        return self.last + 2 * len(self.path)


class Line:
    """A statement with its places: a let of a word, or a give, of which the word is None.

    The nodes are the expressions in it, each ahead of its parts.
    """

    def __init__(self, word, first, last, nodes):
        self.word = word
        self.first = first
        self.last = last
        self.nodes = nodes


class Parser:
    """Words that are read from a place on; `nodes` has the expressions, each ahead of its parts."""

    def __init__(self, words, at):
        self.words = words
        self.at = at
        self.nodes = []

    def word_here(self):
        """What comes, None at the end."""
        return self.words[self.at] if self.at < len(self.words) else None

    def take(self, word):
        """Go over what has to come: this word or sign, or None, the end."""
        if self.word_here() != word:
            raise NotWhole(self.at)
        self.at += 1

    def take_if(self, word):
        """Go over this word or sign, if it comes, and tell whether it did."""
        if self.word_here() != word:
            return False
        self.at += 1
        return True

    def take_word(self):
        """Go over a word, and return it."""
        word = self.word_here()
        if not is_word(word):
            raise NotWhole(self.at)
        self.at += 1
        return word

    def node(self, shape, word, first):
        """A new node that begins at a place."""
        found = Node(shape, word, first)
        self.nodes.append(found)
        return found


def read_lets(reader, words):
    """What the names of a text's lets are, and the place of its give, if it has one and all lets are right."""
    state = begin()
    for place, word in enumerate(words):
        if state.mode == "statement" and word == "give":
            return state.lets, place
        state = step(reader, state, word)
        if state is None:
            raise NotWhole(place)
    raise NotWhole(len(words))


def give_nodes(words, place):
    """The nodes of a give with which words end, each ahead of its parts."""
    return read_give(Parser(words, place)).nodes


def read_text(words):
    """The list of the lines of a whole text."""
    parser = Parser(words, 0)
    lines = []
    while parser.take_if("let"):
        first = parser.at - 1
        word = parser.take_word()
        parser.take("=")
        lines.append(read_line(parser, word, first))
    return lines + [read_give(parser)]


def read_give(parser):
    """Read a give, with which the words end."""
    first = parser.at
    parser.take("give")
    line = read_line(parser, None, first)
    parser.take(None)
    return line


def read_line(parser, word, first):
    """Read the expression and the end of a statement that begins at a place."""
    parser.nodes = []
    read_expression(parser)
    parser.take(";")
    return Line(word, first, parser.at, parser.nodes)


def read_expression(parser):
    """Read an expression; without recursion, as a text may open very many."""
    opened = []
    while True:
        node = begun_node(parser, opened)
        while node is not None:
            if not opened:
                return
            node = further_node(parser, opened, node)


def begun_node(parser, opened):
    """Read an expression without parts, or the beginning of another one, up to its first part (then None)."""
    first = parser.at
    if parser.take_if("{"):
        literal = parser.node("literal", None, first)
        if parser.take_if("}"):
            return ended_node(parser, literal)
        opened.append(literal)
        read_field(parser, literal)
        return None
    if parser.take_if(HOLE):
        return ended_node(parser, parser.node("name", HOLE, first))
    word = parser.take_word()
    if not parser.take_if("("):
        return ended_node(parser, parser.node("name", word, first))
    call = parser.node("call", word, first)
    if parser.take_if(")"):
        return ended_node(parser, call)
    opened.append(call)
    return None


def further_node(parser, opened, part):
    """Read on behind a part of the innermost expression: the whole expression, None if a further part comes."""
    node = opened[-1]
    node.parts.append(part)
    if parser.take_if(","):
        if node.shape == "literal":
            read_field(parser, node)
        return None
    parser.take("}" if node.shape == "literal" else ")")
    opened.pop()
    return ended_node(parser, node)


def read_field(parser, literal):
    """Read a field of a literal, and its colon."""
    literal.fields.append(parser.take_word())
    parser.take(":")


def ended_node(parser, node):
    """Read the fields that are taken of a chain, and return the node."""
    node.last = parser.at
    while node.shape != "literal" and parser.take_if("."):
        node.path.append(parser.take_word())
    return node
