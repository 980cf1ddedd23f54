"""A plain search: texts as DOC.md tells them, made and judged without any view to what could follow."""

from itertools import product
from random import Random

from typingroom.rooms import Room

NO_FIT = ("no",)
KEYWORDS = ("give", "let")


def is_below(room_parts, one, other):
    """Point [2], by the pairs of the order alone."""
    order = room_parts["order"]
    if other == ("any",):
        return True
    if one[0] != other[0]:
        return False
    if one[0] == "base":
        return one == other or any(pair[0] == one[1] and is_below(room_parts, ("base", pair[1]), other)
                                   for pair in order)
    held = dict(one[1])
    return all(field in held and is_below(room_parts, held[field], kind) for field, kind in other[1])


class Tree:
    """An expression: a name, a call, a field of a chain or a literal."""

    def __init__(self, sort, word, parts, fields=()):
        self.sort = sort
        self.word = word
        self.parts = parts
        self.fields = fields


class Parser:
    """The tree of a whole text, None if it is not whole."""

    def __init__(self, words):
        self.words = words
        self.at = 0

    def here(self):
        return self.words[self.at] if self.at < len(self.words) else ""

    def take(self, word):
        if self.here() != word:
            raise SyntaxError
        self.at += 1

    def word(self):
        word = self.here()
        if not word.isalpha() or word in KEYWORDS:
            raise SyntaxError
        self.at += 1
        return word

    def text(self):
        rows = []
        while self.here() == "let":
            self.at += 1
            word = self.word()
            self.take("=")
            rows.append((word, self.expression()))
            self.take(";")
        self.take("give")
        rows.append((None, self.expression()))
        self.take(";")
        if self.at != len(self.words):
            raise SyntaxError
        return rows

    def expression(self):
        if self.here() == "{":
            return self.literal()
        word = self.word()
        tree = Tree("name", word, [])
        if self.here() == "(":
            self.at += 1
            parts = []
            if self.here() != ")":
                parts.append(self.expression())
                while self.here() == ",":
                    self.at += 1
                    parts.append(self.expression())
            self.take(")")
            tree = Tree("call", word, parts)
        while self.here() == ".":
            self.at += 1
            tree = Tree("of", self.word(), [tree])
        return tree

    def literal(self):
        self.take("{")
        fields, parts = [], []
        going = self.here() != "}"
        while going:
            fields.append(self.word())
            self.take(":")
            parts.append(self.expression())
            going = self.here() == ","
            if going:
                self.at += 1
        self.take("}")
        return Tree("literal", None, parts, fields)


def own_types(parts, scope, tree):
    """The own types of an expression, by point [5]."""
    if tree.sort == "name":
        return scope.get(tree.word, [])
    if tree.sort == "call":
        found = []
        for parameters, needed, result in parts["functions"].get(tree.word, []):
            if needed <= len(tree.parts) <= len(parameters) and all(
                    fits(parts, scope, part, kind) for part, (_, kind) in zip(tree.parts, parameters)):
                found.append(result)
        return found
    if tree.sort == "of":
        return [dict(kind[1])[tree.word] for kind in own_types(parts, scope, tree.parts[0])
                if kind[0] == "record" and tree.word in dict(kind[1])]
    rows = [own_types(parts, scope, part) for part in tree.parts]
    return [("record", tuple(sorted(zip(tree.fields, row)))) for row in product(*rows)]


def fits(parts, scope, tree, need):
    """Whether an expression fits a need, by point [5]."""
    if tree.sort != "literal":
        return any(is_below(parts, kind, need) for kind in own_types(parts, scope, tree))
    if len(set(tree.fields)) != len(tree.fields):
        return False
    if need == ("any",):
        return all(fits(parts, scope, part, need) for part in tree.parts)
    if need[0] == "base" or sorted(tree.fields) != [field for field, _ in need[1]]:
        return False
    return all(fits(parts, scope, part, dict(need[1])[field]) for field, part in zip(tree.fields, tree.parts))


def is_right(parts, words):
    """Whether a text is right, by point [5]."""
    try:
        rows = Parser(words).text()
    except SyntaxError:
        return False
    scope = {name: [kind] for name, kind in parts["names"].items()}
    for word, tree in rows:
        if word is None:
            return fits(parts, scope, tree, parts["goal"])
        if word in scope or word in parts["functions"] or not fits(parts, scope, tree, ("any",)):
            return False
        scope[word] = own_types(parts, scope, tree)
    return False


def room_of(parts):
    return Room(parts["bases"], parts["order"], parts["names"], parts["functions"], parts["goal"])


def expressions(parts, names, fields, most, memo):
    """All expressions, right or not, with at most so many words, by their number of words."""
    found = {number: [] for number in range(1, most + 1)}
    chains = {number: [] for number in range(1, most + 1)}
    for number in range(1, most + 1):
        if number == 1:
            chains[1] = [[name] for name in names]
        for word, signatures in parts["functions"].items():
            counts = sorted({many for row in signatures for many in range(row[1], len(row[0]) + 1)})
            for many in counts:
                for row in rows_of(found, many, number - 3 - max(many - 1, 0)):
                    words = [word, "("]
                    for place, part in enumerate(row):
                        words += ([","] if place else []) + part
                    chains[number].append(words + [")"])
        if number > 2:
            chains[number] += [chain + [".", field] for chain in chains[number - 2] for field in fields]
        found[number] = list(chains[number])
        for many in range(0, len(fields) + 1):
            for chosen in ordered(fields, many):
                for row in rows_of(found, many, number - 2 - 2 * many - max(many - 1, 0)):
                    words = ["{"]
                    for place, (field, part) in enumerate(zip(chosen, row)):
                        words += ([","] if place else []) + [field, ":"] + part
                    found[number].append(words + ["}"])
    return found


def ordered(fields, many):
    if many == 0:
        return [()]
    return [row + (field,) for row in ordered(fields, many - 1) for field in fields if field not in row]


def rows_of(found, many, total):
    """All rows of so many expressions with so many words in all."""
    if many == 0:
        return [[]] if total == 0 else []
    return [[part] + row for number in range(1, total - many + 2) for part in found[number]
            for row in rows_of(found, many - 1, total - number)]


def right_texts(parts, fields, lets, most):
    """All right texts with at most so many words, whose fields, and words of lets, are these."""
    texts = []

    def go_on(front, names, left):
        if left < 3:
            return
        found = expressions(parts, names, fields, left - 2, {})
        for number in found:
            for words in found[number]:
                texts.append(front + ["give"] + words + [";"])
        if len(names) - len(parts["names"]) < len(lets):
            for word in lets:
                if word in names:
                    continue
                for number in range(1, left - 7 + 1):
                    for words in found[number]:
                        text = front + ["let", word, "="] + words + [";"]
                        if starts_right(parts, text):
                            go_on(text, names + [word], most - len(text))

    go_on([], list(parts["names"]), most)
    return [text for text in texts if is_right(parts, text)]


def starts_right(parts, words):
    """Whether lets are right, by a give that any room has."""
    other = dict(parts, names=dict(parts["names"], zzz=parts["goal"]))
    return is_right(other, words + ["give", "zzz", ";"])


def random_type(random, bases, fields, deep):
    if deep == 1 or random.random() < 0.6:
        return ("base", random.choice(bases))
    chosen = sorted(random.sample(fields, random.randint(0, len(fields))))
    return ("record", tuple((field, random_type(random, bases, fields, deep - 1)) for field in chosen))


def random_parts(number, most_names=2, most_functions=2):
    """The parts of a small room, the same ones for the same number."""
    random = Random(number)
    bases = ["a", "b", "c"][:random.randint(1, 3)]
    pairs = [(one, other) for one in bases for other in bases if one < other]
    fields = ["p", "q"][:random.randint(1, 2)]
    names = {word: random_type(random, bases, fields, 3) for word in ["x", "y", "z"][:random.randint(0, most_names)]}
    functions = {}
    for word in ["f", "g", "h"][:random.randint(0, most_functions)]:
        rows = []
        for _ in range(random.randint(1, 3)):
            many = random.choice([0, 1, 1, 2])
            parameters = [(other, random_type(random, bases, fields, 2)) for other in ["u", "v"][:many]]
            rows.append((parameters, random.randint(0, many), random_type(random, bases, fields, 3)))
        functions[word] = rows
    return {"bases": bases, "order": random.sample(pairs, random.randint(0, len(pairs))), "names": names,
            "functions": functions, "goal": random_type(random, bases, fields, 2)}, fields
