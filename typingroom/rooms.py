"""Rooms: base types with their order, names, functions and a goal."""

from typingroom.errors import BadRoom, BadType
from typingroom.kinds import ANY, is_need, is_type, is_within, is_word

MOST_BASES = 12
MOST_NAMES = 20
MOST_FUNCTIONS = 20
MOST_SIGNATURES = 6
MOST_PARAMETERS = 6


class Room:
    """What all texts are about; `above` tells the base types above each, `functions` the signatures."""

    def __init__(self, bases, order, names, functions, goal):
        self.above = checked_bases(bases, order)
        self.names = checked_names(names, self.above)
        self.functions = checked_functions(functions, self.names, self.above)
        self.goal = checked_type(goal, self.above)

    def __eq__(self, other):
        if not isinstance(other, Room):
            return NotImplemented
        if self.above != other.above or self.names != other.names:
            return False
        return self.functions == other.functions and self.goal == other.goal

    def __contains__(self, word):
        return isinstance(word, str) and (word in self.names or word in self.functions)

    def is_below(self, one, other):
        """Whether a type is below a type or any."""
        if not is_type(one) or not is_need(other):
            raise BadType("not a type, and a type or any")
        return is_under(self.above, one, other)


def is_under(above, one, other):
    """Whether a type is below a type or any, where these base types are above each."""
    if other == ANY:
        return True
    if one[0] != other[0]:
        return False
    if one[0] == "base":
        return one == other or other[1] in above.get(one[1], [])
    held = dict(one[1])
    return all([field in held and is_under(above, held[field], kind) for field, kind in other[1]])


def checked_room(thing):
    """The value, which has to be a room."""
    if not isinstance(thing, Room):
        raise BadRoom("not a room")
    return thing


def is_list(thing):
    """Whether a value can be given as a list."""
    return isinstance(thing, (list, tuple))


def checked_bases(bases, order):
    """A dict from the base types, ascending, to the ascending lists of those above each."""
    if not is_list(bases) or not 1 <= len(bases) <= MOST_BASES:
        raise BadRoom("not 1 to 12 base types")
    if not all([is_word(base) for base in bases]) or len(set(bases)) != len(bases):
        raise BadRoom("base types are not different words")
    if not is_list(order) or not all([is_pair(pair, bases) for pair in order]):
        raise BadRoom("the order is not made of pairs of base types")
    above = {base: all_above(base, order) for base in sorted(bases)}
    if any([base in found for base, found in above.items()]):
        raise BadRoom("a base type is below itself")
    return above


def is_pair(thing, bases):
    """Whether a value is a pair of base types."""
    return isinstance(thing, tuple) and len(thing) == 2 and thing[0] in bases and thing[1] in bases


def all_above(base, order):
    """The ascending list of the base types that pairs, one behind the other, lead to from one."""
    found = []
    waiting = [base]
    while waiting:
        at = waiting.pop()
        for lower, upper in order:
            if lower == at and upper not in found:
                found.append(upper)
                waiting.append(upper)
    return sorted(found)


def checked_type(kind, above):
    """A type all of whose base types are the room's."""
    if not is_type(kind) or not has_bases(kind, above):
        raise BadRoom("not a type of the room")
    return kind


def has_bases(kind, above):
    """Whether all base types in a type are among these."""
    if kind[0] == "base":
        return kind[1] in above
    return all([has_bases(inner, above) for _, inner in kind[1]])


def checked_names(names, above):
    """A dict from the names, ascending, to their types."""
    if not isinstance(names, dict) or len(names) > MOST_NAMES:
        raise BadRoom("not a dict of at most 20 names")
    if not all([is_word(name) for name in names]):
        raise BadRoom("a name is not a word")
    return {name: checked_type(names[name], above) for name in sorted(names)}


def checked_functions(functions, names, above):
    """A dict from the functions' words, ascending, to the lists of their signatures."""
    if not isinstance(functions, dict) or len(functions) > MOST_FUNCTIONS:
        raise BadRoom("not a dict of at most 20 functions")
    if not all([is_word(function) and function not in names for function in functions]):
        raise BadRoom("a function has not a word of its own")
    return {function: checked_signatures(functions[function], above) for function in sorted(functions)}


def checked_signatures(signatures, above):
    """The list of the signatures of a function."""
    if not is_list(signatures) or not 1 <= len(signatures) <= MOST_SIGNATURES:
        raise BadRoom("not 1 to 6 signatures")
    return [checked_signature(signature, above) for signature in signatures]


def checked_signature(signature, above):
    """A signature, with its parameters as a tuple."""
    if not isinstance(signature, tuple) or len(signature) != 3:
        raise BadRoom("a signature is not a triple")
    parameters, needed, result = signature
    if not is_list(parameters) or len(parameters) > MOST_PARAMETERS:
        raise BadRoom("not at most 6 parameters")
    if not all([isinstance(pair, tuple) and len(pair) == 2 and is_word(pair[0]) for pair in parameters]):
        raise BadRoom("parameters are not pairs of a word and a type")
    words = [word for word, _ in parameters]
    if len(set(words)) != len(words):
        raise BadRoom("a parameter's word is there twice")
    rows = tuple([(word, checked_type(kind, above)) for word, kind in parameters])
    if not is_within(needed, 0, len(rows)):
        raise BadRoom("not a number of needed parameters")
    return (rows, needed, checked_type(result, above))
