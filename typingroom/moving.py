"""Expressions that are put into lets, and out of them again."""

from typingroom.errors import BadNumber, NotWhole
from typingroom.kinds import is_whole, is_word
from typingroom.trees import read_text
from typingroom.words import checked_words


def unused(words):
    """The list of the names of lets that stand nowhere as an expression, in order."""
    lines = read_text(checked_words(words))
    stands = {node.word: True for line in lines for node in line.nodes if node.shape == "name"}
    return [line.word for line in lines if line.word is not None and line.word not in stands]


def told_out(words, first, last, name):
    """The words with an expression, by its places, in a let with a new name ahead of its statement."""
    told = checked_words(words)
    lines = read_text(told)
    starts = [line.first for line in lines for node in line.nodes if (node.first, node.end()) == (first, last)]
    # True and False are equal to integers, but are none.
    if not starts or not is_whole(first) or not is_whole(last):
        raise BadNumber("not the places of an expression of which no field is taken")
    if not is_word(name):
        raise BadNumber("the name is no word")
    let = ["let", name, "="] + told[first:last] + [";"]
    return told[:starts[0]] + let + told[starts[0]:first] + [name] + told[last:]


def put_in(words, name):
    """The words with the expression of a let in the place of its name, without the let."""
    told = checked_words(words)
    lines = read_text(told)
    lets = [line for line in lines if line.word is not None and line.word == name]
    if not lets:
        raise NotWhole(len(told))
    let = lets[0]
    others = [node for line in lines for node in line.nodes if line.first != let.first]
    stands = [node for node in others if node.shape == "name" and node.word == name]
    for node in stands:
        if node.path and let.nodes[0].shape == "literal":
            raise NotWhole(node.last)
    return with_all(told, {node.first: True for node in stands}, let)


def with_all(words, places, let):
    """The words with a let's expression at these places, without the let."""
    expression = words[let.nodes[0].first:let.nodes[0].end()]
    found = []
    for place, word in enumerate(words):
        if place in places:
            found.extend(expression)
        elif not let.first <= place < let.last:
            found.append(word)
    return found
