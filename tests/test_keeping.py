from random import Random
from unittest import TestCase

from tests.samples import BAD_WORDS, raised
from typingroom.edits import Edit
from typingroom.errors import BadEdit, BadWords, NotWhole
from typingroom.keeping import anew, kept, nodes
from typingroom.words import split_text


def plain_nodes(words):
    """The nodes, found by reading from left to right and back again; words have to be a whole text."""
    found = []

    def expression(at):
        first = at
        if words[at] == "{":
            at += 1
            while words[at] != "}":
                at = expression(at + (3 if words[at] == "," else 2))
            found.append(("literal", first, at + 1))
            return at + 1
        at += 1
        kind = "name"
        if words[at] == "(":
            kind = "call"
            at += 1
            while words[at] != ")":
                at = expression(at + (words[at] == ","))
            at += 1
        found.append((kind, first, at))
        while words[at] == ".":
            at += 2
            found.append(("of", first, at))
        return at

    at = 0
    while at < len(words):
        first = at
        at = expression(at + (3 if words[at] == "let" else 1)) + 1
        found.append((words[first], first, at))
    return sorted(found, key=lambda node: node[1:])


def plain_kept(words, edit):
    """Point [19], word by word."""
    new = plain_nodes(edit(words))
    pairs = []
    for kind, first, last in plain_nodes(words):
        more = None
        if last <= edit.first:
            more = 0
        elif first >= edit.last and first != edit.first:
            more = len(edit.words) - (edit.last - edit.first)
        if more is not None and (kind, first + more, last + more) in new:
            pairs.append(((kind, first, last), (kind, first + more, last + more)))
    return pairs


def drawn_expression(random, deep):
    shape = random.randrange(5) if deep else 0
    if shape < 2:
        words = [random.choice("xyk")]
    elif shape == 2:
        words = ["{"]
        for number in range(random.randint(0, 3)):
            words += ([","] if number else []) + [random.choice("pqr"), ":"] + drawn_expression(random, deep - 1)
        return words + ["}"]
    else:
        words = [random.choice("fgx"), "("]
        for number in range(random.randint(0, 3)):
            words += ([","] if number else []) + drawn_expression(random, deep - 1)
        words += [")"]
    for _ in range(random.choice([0, 0, 0, 1, 2])):
        words += [".", random.choice("pqr")]
    return words


def drawn_whole(random):
    """A whole text; its names need not be known, nor its types fit."""
    words = []
    for _ in range(random.choice([0, 0, 1, 2])):
        words += ["let", random.choice("klmn"), "="] + drawn_expression(random, 2) + [";"]
    return words + ["give"] + drawn_expression(random, 3) + [";"]


def drawn_change(random, words):
    """An edit behind which the words are likely to be whole."""
    told = plain_nodes(words)
    if random.random() < 0.7:
        _, first, last = random.choice([node for node in told if node[0] not in ("let", "give")])
        return Edit(first, last, random.choice([drawn_expression(random, 1), words[first:last]]))
    if random.random() < 0.5:
        at = random.choice([first for kind, first, _ in told if kind in ("let", "give")])
        return Edit(at, at, ["let", "o", "="] + drawn_expression(random, 1) + [";"])
    at = random.randint(0, len(words))
    return Edit(at, min(len(words), at + random.randint(0, 2)), random.choice([[], ["x"], [".", "p"], ["x", ","], words[at:at + 1]]))


class Nodes(TestCase):
    def check(self, text, *told):
        found = nodes(split_text(text))
        self.assertEqual(found, [(row.split()[0], *map(int, row.split()[1:])) for row in told], text)
        self.assertEqual(found, plain_nodes(split_text(text)))

    def test_told_ones(self):
        self.check("give x;", "give 0 3", "name 1 2")
        self.check("give {};", "give 0 4", "literal 1 3")
        self.check("give f();", "give 0 5", "call 1 4")
        self.check("give x.p.q;", "give 0 7", "name 1 2", "of 1 4", "of 1 6")
        self.check("give f().p.q;", "give 0 9", "call 1 4", "of 1 6", "of 1 8")
        self.check("give f(x.p, g(y));", "give 0 13", "call 1 12", "name 3 4", "of 3 6", "call 7 11", "name 9 10")
        self.check("let k = x; give k;", "let 0 5", "name 3 4", "give 5 8", "name 6 7")
        self.check("let k = {p: x}; let m = k.p; give m;", "let 0 9", "literal 3 8", "name 6 7", "let 9 16", "name 12 13",
                   "of 12 15", "give 16 19", "name 17 18")

    def test_calls_in_calls_and_literals_in_literals(self):
        self.check("give f(g(x), y);", "give 0 11", "call 1 10", "call 3 7", "name 5 6", "name 8 9")
        self.check("give {p: {q: x, r: {}}};", "give 0 16", "literal 1 15", "literal 4 14", "name 7 8", "literal 11 13")

    def test_in_drawn_texts(self):
        for number in range(300):
            words = drawn_whole(Random(number))
            self.assertEqual(nodes(words), plain_nodes(words), words)
            self.assertEqual(nodes(tuple(words)), plain_nodes(words))


class Kept(TestCase):
    def check(self, text, first, last, more, *told):
        """The nodes that are kept, and the places behind the edit."""
        words, edit = split_text(text), Edit(first, last, split_text(more))
        rows = [row.split() for row in told]
        pairs = [((kind, int(one), int(other)), (kind, int(one) + int(far), int(other) + int(far)))
                 for kind, one, other, far in rows]
        self.assertEqual(kept(words, edit), pairs, (text, more))
        self.assertEqual(kept(words, edit), plain_kept(words, edit))
        self.assertEqual(sorted(anew(words, edit) + [node for _, node in pairs], key=lambda node: node[1:]),
                         nodes(edit(words)))

    def test_in_front_behind_and_within(self):
        self.check("give f(x, y);", 3, 4, "g()", "name 5 6 2")
        self.check("give f(x, y);", 5, 6, "g()", "name 3 4 0")
        self.check("give f(x, y);", 1, 2, "g", "name 3 4 0", "name 5 6 0")
        self.check("let k = x; give f(k.p);", 0, 0, "let m = y;", "name 3 4 5", "give 5 13 5", "call 6 12 5", "name 8 9 5",
                   "of 8 11 5")
        self.check("let k = x; give k;", 3, 4, "{}", "give 5 8 1", "name 6 7 1")

    def test_touching_on_either_side(self):
        self.check("give x.p;", 2, 4, "", "name 1 2 0")
        self.check("give x;", 2, 2, ".p", "name 1 2 0")
        self.check("give x;", 2, 2, "()")
        self.check("give f(x);", 3, 3, "y,")
        self.check("give f(y, x);", 3, 5, "", "name 5 6 -2")
        self.check("let k = x; give k;", 0, 5, "", "give 5 8 -5", "name 6 7 -5")
        self.check("give k;", 0, 0, "let k = x;", "name 1 2 5")
        self.check("let k = x; give k;", 5, 5, "let m = x;", "let 0 5 0", "name 3 4 0", "name 6 7 5")

    def test_empty_stretches_and_the_same_words(self):
        self.check("give f(x, y);", 3, 4, "x", "name 5 6 0")
        self.check("give f(x, y);", 4, 4, "", "name 3 4 0", "name 5 6 0")
        self.check("give f(x, y);", 3, 3, "", "name 5 6 0")
        self.check("give f(x, y);", 0, 0, "", "call 1 7 0", "name 3 4 0", "name 5 6 0")
        self.check("give f(x, y);", 8, 8, "", "give 0 8 0", "call 1 7 0", "name 3 4 0", "name 5 6 0")
        self.check("give f(x, y);", 0, 8, "give f(x, y);")

    def test_of_chains(self):
        self.check("give x.p.q;", 5, 6, "r", "name 1 2 0", "of 1 4 0")
        self.check("give x.p.q;", 3, 4, "r", "name 1 2 0")
        self.check("give x.p.q;", 1, 2, "y")
        self.check("give x.p.q;", 4, 6, "", "name 1 2 0", "of 1 4 0")
        self.check("give f(x).p;", 3, 4, "y")

    def test_drawn_edits(self):
        count = 0
        for number in range(600):
            random = Random(number)
            words = drawn_whole(random)
            edit = drawn_change(random, words)
            try:
                new = nodes(edit(words))
            except NotWhole:
                raised(NotWhole, kept, words, edit)
                raised(NotWhole, anew, words, edit)
                continue
            count += 1
            pairs = kept(words, edit)
            self.assertEqual(pairs, plain_kept(words, edit), (words, edit.first, edit.last, edit.words))
            self.assertEqual(anew(words, edit), [node for node in new if node not in [after for _, after in pairs]])
            self.assertEqual(len({after for _, after in pairs}), len(pairs))
            far = [node for node in nodes(words) if node[2] < edit.first or node[1] > edit.last]
            self.assertEqual([node for node in far if node not in [before for before, _ in pairs]], [], (words, edit.words))
        self.assertGreater(count, 300)


class Errors(TestCase):
    def test_bad_words(self):
        for words in BAD_WORDS:
            raised(BadWords, nodes, words)
            raised(BadWords, kept, words, Edit(999, 999, []))
            raised(BadWords, anew, words, Edit(999, 999, []))

    def test_edits_that_do_not_fit_come_ahead_of_what_is_not_whole(self):
        for words in (["give", "x", ";"], ["give"], []):
            for door in (kept, anew):
                raised(BadEdit, door, words, Edit(0, 4, []))

    def test_what_is_not_whole(self):
        for text in ["", "give", "give x", "x;", "give x; give x;", "let k = x;", "let k x; give k;", "let = x; give x;",
                     "give f(x;", "give {x};", "give {p: x,};", "give x..p;", "give f(,);", "give f(x,);", "give {}.p;",
                     "give let;", "give x ;;", "let k = x give k;", "give f(x));", "give .p;", "let give = x; give x;"]:
            raised(NotWhole, nodes, split_text(text))
            raised(NotWhole, kept, split_text(text), Edit(0, 0, []))
            raised(NotWhole, anew, split_text(text), Edit(0, 0, []))

    def test_what_is_not_whole_behind_the_edit(self):
        words = ["give", "x", ";"]
        for door in (kept, anew):
            raised(NotWhole, door, words, Edit(1, 2, []))
            raised(NotWhole, door, words, Edit(3, 3, ["x"]))
            raised(NotWhole, door, ["give", "x"], Edit(2, 2, [";"]))

    def test_nothing_is_changed(self):
        words = ["give", "x", ";"]
        edit = Edit(1, 2, ["y"])
        for door in (kept, anew):
            door(words, edit).clear()
            self.assertEqual(door(words, edit), door(list(words), Edit(1, 2, ("y",))))
        nodes(words).clear()
        self.assertEqual([words, edit.first, edit.words], [["give", "x", ";"], 1, ("y",)])
        self.assertEqual(len(nodes(words)), 2)
