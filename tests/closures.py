"""Plain closures: classes of expressions in two rooms (point [15]), and triples of one room (point [18]), step by step."""

from itertools import product

from tests.plain import is_below


def inner_types(kind):
    """A type and all types in it."""
    found = [kind]
    if kind[0] == "record":
        for _, inner in kind[1]:
            found += inner_types(inner)
    return found


def record_needs(*rooms):
    """The record types among the goals, parameters' types, and all types in these."""
    asked = [parts["goal"] for parts in rooms]
    asked += [kind for parts in rooms for rows in parts["functions"].values() for row in rows for _, kind in row[0]]
    return sorted({inner for kind in asked for inner in inner_types(kind) if inner[0] == "record"})


def fields_of(kind):
    return [field for field, _ in kind[1]] if kind[0] == "record" else []


def ascending(kinds):
    return tuple(sorted(set(kinds)))


def fits_in(parts, side, expression, kind):
    """Whether an expression of a class, a pair of a word and the class, fits a type in the room of a side."""
    shape, pair = expression
    if shape == "literal":
        return kind in pair[side]
    return any(is_below(parts, own, kind) for own in pair[side])


def made_classes(rooms, chains, literals):
    """The classes of names, and of all chains and literals that are made of expressions of some classes."""
    expressions = [("chain", pair) for pair in chains] + [("literal", pair) for pair in literals]
    made_chains = [tuple(tuple([parts["names"][name]] if name in parts["names"] else []) for parts in rooms)
                   for name in {**rooms[0]["names"], **rooms[1]["names"]}]
    for pair in chains:
        for field in {field for side in pair for kind in side for field in fields_of(kind)}:
            made_chains.append(tuple(ascending(dict(kind[1])[field] for kind in side if field in fields_of(kind))
                                     for side in pair))
    for word in {**rooms[0]["functions"], **rooms[1]["functions"]}:
        rows = [parts["functions"].get(word, []) for parts in rooms]
        most = max(len(row[0]) for side in rows for row in side)
        for many in range(most + 1):
            for given in product(expressions, repeat=many):
                made_chains.append(tuple(ascending(
                    row[2] for row in rows[side] if row[1] <= many <= len(row[0]) and all(
                        fits_in(rooms[side], side, one, kind) for one, (_, kind) in zip(given, row[0])))
                    for side in (0, 1)))
    made_literals = []
    records = record_needs(*rooms)
    for fields in {tuple(fields_of(kind)) for kind in records}:
        for given in product(expressions, repeat=len(fields)):
            made_literals.append(tuple(ascending(
                kind for kind in records if tuple(fields_of(kind)) == fields and all(
                    fits_in(rooms[side], side, one, inner) for one, (_, inner) in zip(given, kind[1])))
                for side in (0, 1)))
    return {pair for pair in made_chains if pair != ((), ())}, {pair for pair in made_literals if pair != ((), ())}


def closure(make):
    """What there is when nothing more can be made."""
    chains, literals = set(), set()
    while True:
        more, other = make(chains, literals)
        if more <= chains and other <= literals:
            return chains, literals
        chains, literals = chains | more, literals | other


def all_classes(rooms):
    return closure(lambda chains, literals: made_classes(rooms, sorted(chains), sorted(literals)))


def is_same(rooms, chains, literals):
    """Whether lists of classes are as point [15] describes those of Same."""
    more, other = made_classes(rooms, chains, literals)
    if not more <= set(chains) or not other <= set(literals):
        return False
    return all(len({fits_in(parts, side, one, parts["goal"]) for side, parts in enumerate(rooms)}) == 1
               for one in [("chain", pair) for pair in chains] + [("literal", pair) for pair in literals])


def two_fits(parts, chains, literals, one, other):
    """The Booleans with which expressions fit two types in two ways."""
    found = {differ for first, second, differ in chains if is_below(parts, first, one) and is_below(parts, second, other)}
    return found | {differ for first, second, differ in literals if (first, second) == (one, other)}


def made_triples(parts, chains, literals):
    """The triples of names, and all that follow from some triples."""
    made_chains = {(kind, kind, False) for kind in parts["names"].values()}
    for one, other, differ in chains:
        for field in set(fields_of(one)) & set(fields_of(other)):
            made_chains.add((dict(one[1])[field], dict(other[1])[field], differ))
    for rows in parts["functions"].values():
        for one, other in product(range(len(rows)), repeat=2):
            first, second = rows[one], rows[other]
            for many in range(max(first[1], second[1]), min(len(first[0]), len(second[0])) + 1):
                pairs = [(first[0][place][1], second[0][place][1]) for place in range(many)]
                for differs in product(*[two_fits(parts, chains, literals, *pair) for pair in pairs]):
                    made_chains.add((first[2], second[2], one != other or any(differs)))
    made_literals = set()
    for one, other in product(record_needs(parts), repeat=2):
        if fields_of(one) == fields_of(other):
            pairs = [(dict(one[1])[field], dict(other[1])[field]) for field in fields_of(one)]
            for differs in product(*[two_fits(parts, chains, literals, *pair) for pair in pairs]):
                made_literals.add((one, other, any(differs)))
    return made_chains, made_literals


def all_triples(parts):
    return closure(lambda chains, literals: made_triples(parts, sorted(chains), sorted(literals)))


def is_clear(parts, chains, literals):
    """Whether lists of triples are as point [18] describes those of Clear."""
    more, other = made_triples(parts, chains, literals)
    if not more <= set(chains) or not other <= set(literals):
        return False
    return True not in two_fits(parts, chains, literals, parts["goal"], parts["goal"])
