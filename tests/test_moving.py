from random import Random
from unittest import TestCase

from tests.plain import is_right, random_parts, right_texts
from tests.samples import BAD_WORDS, raised
from tests.test_keeping import drawn_whole, plain_nodes
from typingroom.errors import BadNumber, BadWords, NotWhole
from typingroom.moving import put_in, told_out, unused
from typingroom.words import split_text

MOST = 14


def whole_expressions(words):
    """The nodes that are expressions of which no field is taken."""
    return [node for node in plain_nodes(words) if node[0] not in ("let", "give") and words[node[2]] != "."]


def plain_told_out(words, first, last, name):
    start = max(node[1] for node in plain_nodes(words) if node[0] in ("let", "give") and node[1] < first)
    return words[:start] + ["let", name, "="] + words[first:last] + [";"] + words[start:first] + [name] + words[last:]


def lets_of(words):
    """The lets, as pairs of a name and the places of the statement."""
    return [(words[first + 1], first, last) for kind, first, last in plain_nodes(words) if kind == "let"]


class ToldOut(TestCase):
    def check(self, text, first, last, told):
        words = split_text(text)
        self.assertEqual(told_out(words, first, last, "k"), split_text(told), text)
        self.assertEqual(told_out(tuple(words), first, last, "k"), split_text(told))
        self.assertEqual(put_in(split_text(told), "k"), words)

    def test_told_ones(self):
        self.check("give x;", 1, 2, "let k = x; give k;")
        self.check("give f(x.p);", 3, 6, "let k = x.p; give f(k);")
        self.check("give f(x.p);", 1, 7, "let k = f(x.p); give k;")
        self.check("give f(x.p).q;", 1, 9, "let k = f(x.p).q; give k;")
        self.check("give {p: {}, q: x};", 4, 6, "let k = {}; give {p: k, q: x};")
        self.check("give {p: {}, q: x};", 9, 10, "let k = x; give {p: {}, q: k};")
        self.check("give f(x, {p: y});", 5, 10, "let k = {p: y}; give f(x, k);")
        self.check("let m = f(x); give m;", 5, 6, "let k = x; let m = f(k); give m;")
        self.check("let m = f(x); let n = y; give m;", 11, 12, "let m = f(x); let k = y; let n = k; give m;")
        self.check("let m = x; give m.p;", 6, 9, "let m = x; let k = m.p; give k;")

    def test_a_name_that_is_there(self):
        self.assertEqual(told_out(split_text("let k = x; give k;"), 6, 7, "k"), split_text("let k = x; let k = k; give k;"))
        self.assertEqual(told_out(split_text("give f(x);"), 3, 4, "f"), split_text("let f = x; give f(f);"))

    def test_drawn_texts(self):
        for number in range(50):
            words = drawn_whole(Random(number))
            places = [(first, last) for _, first, last in whole_expressions(words)]
            for first in range(-1, len(words) + 2):
                for last in range(first - 1, len(words) + 2):
                    if (first, last) in places:
                        told = told_out(words, first, last, "zz")
                        self.assertEqual(told, plain_told_out(words, first, last, "zz"), words)
                        self.assertEqual(put_in(told, "zz"), words)
                        self.assertEqual(unused(told), unused(words))
                    else:
                        raised(BadNumber, told_out, words, first, last, "zz")

    def test_right_texts_stay_right(self):
        count = 0
        for number in range(60):
            parts, fields = random_parts(number)
            texts = right_texts(parts, fields, ["k"], MOST - 3)
            for words in Random(number).sample(texts, min(len(texts), 10)):
                for _, first, last in whole_expressions(words):
                    told = told_out(words, first, last, "zz")
                    self.assertTrue(is_right(parts, told), (parts, words, first, last))
                    self.assertEqual(put_in(told, "zz"), words)
                    count += 1
                for name, first, _ in lets_of(words):
                    if words[first + 3] != "{":
                        self.assertTrue(is_right(parts, put_in(words, name)), (parts, words))
        self.assertGreater(count, 300)


class PutIn(TestCase):
    def check(self, text, name, told):
        self.assertEqual(put_in(split_text(text), name), split_text(told), text)
        self.assertEqual(put_in(tuple(split_text(text)), name), split_text(told), text)

    def test_told_ones(self):
        self.check("let k = x; give k;", "k", "give x;")
        self.check("let k = x; give x;", "k", "give x;")
        self.check("let k = f(x).p; give g(k, k.q);", "k", "give g(f(x).p, f(x).p.q);")
        self.check("let k = x; let m = k; let n = k.p; give f(m, k);", "k", "let m = x; let n = x.p; give f(m, x);")
        self.check("let k = x; let m = k; let n = k.p; give f(m, k);", "m", "let k = x; let n = k.p; give f(k, k);")
        self.check("let k = {p: x}; give f(k, {q: k});", "k", "give f({p: x}, {q: {p: x}});")
        self.check("let k = {}; give x;", "k", "give x;")

    def test_words_that_are_no_expressions_stay(self):
        self.check("let k = x; give {k: x.k};", "k", "give {k: x.k};")
        self.check("let k = x; give k(k);", "k", "give k(x);")
        self.check("let k = {}; give {k: x.k.p};", "k", "give {k: x.k.p};")

    def test_what_can_not_be_put_in(self):
        for text, name in [("give x;", "x"), ("give k;", "k"), ("let k = x; give k;", "m"), ("let k = x; give k;", "x"),
                           ("let k = x; give k;", None), ("let k = x; give k;", ";"), ("let k = x; give k;", "give"),
                           ("let k = {p: x}; give k.p;", "k"), ("let k = {p: x}; let m = k; give f(m, k.p);", "k"),
                           ("let k = {p: x}; let m = k.p; give k;", "k")]:
            raised(NotWhole, put_in, split_text(text), name)
        self.check("let k = {p: x}; let m = k; give m.p;", "k", "let m = {p: x}; give m.p;")

    def test_drawn_texts(self):
        count = 0
        for number in range(300):
            words = drawn_whole(Random(number))
            lets = lets_of(words)
            for name, first, last in lets:
                names = [at for kind, at, _ in plain_nodes(words) if kind == "name" and words[at] == name]
                if len([word for word, _, _ in lets if word == name]) > 1 or any(first < at < last for at in names):
                    continue
                if words[first + 3] == "{" and any(words[at + 1] == "." for at in names):
                    raised(NotWhole, put_in, words, name)
                    continue
                told = []
                for at, word in enumerate(words):
                    if not first <= at < last:
                        told += words[first + 3:last - 1] if at in names else [word]
                self.assertEqual(put_in(words, name), told, words)
                count += 1
        self.assertGreater(count, 100)


class Unused(TestCase):
    def test_told_ones(self):
        for text, told in [("give x;", []), ("let k = x; give k;", []), ("let k = x; give x;", ["k"]),
                           ("let m = x; let k = x; give x;", ["m", "k"]), ("let k = x; let m = k; give x;", ["m"]),
                           ("let k = x; give {k: x.k};", ["k"]), ("let k = x; give k(x);", ["k"]),
                           ("let k = x; give k.p;", []), ("let k = x; give f({p: k});", [])]:
            self.assertEqual(unused(split_text(text)), told, text)
            self.assertEqual(unused(tuple(split_text(text))), told, text)

    def test_drawn_texts(self):
        for number in range(200):
            words = drawn_whole(Random(number))
            stands = [words[first] for kind, first, _ in plain_nodes(words) if kind == "name"]
            self.assertEqual(unused(words), [name for name, _, _ in lets_of(words) if name not in stands])


class Errors(TestCase):
    def test_bad_words_come_first(self):
        for words in BAD_WORDS:
            raised(BadWords, unused, words)
            raised(BadWords, told_out, words, -1, 0, None)
            raised(BadWords, put_in, words, None)

    def test_what_is_not_whole_comes_next(self):
        for text in ["", "give", "give x", "x", "let k = x;", "let k = ; give k;", "give f(x;", "give x; x"]:
            raised(NotWhole, unused, split_text(text))
            raised(NotWhole, told_out, split_text(text), -1, None, "any")
            raised(NotWhole, put_in, split_text(text), "k")

    def test_places_and_names(self):
        words = split_text("give f(x.p, {});")
        for first, last in [(0, 3), (1, 2), (3, 4), (4, 6), (5, 6), (3, 5), (2, 10), (1, 11), (0, 11), (7, 8), (3, 3), (6, 3),
                            (-8, 6), (None, 6), (3, None), ("3", 6), (3, "6"), (3.5, 6)]:
            raised(BadNumber, told_out, words, first, last, "k")
        for first, last in [(True, 2), (1, True), (True, True)]:
            raised(BadNumber, told_out, split_text("give x;"), first, last, "k")
        for name in (None, "any", "let", "give", "", "A", "k1", ";", "?", "abcdefghijk", 3, ["k"]):
            raised(BadNumber, told_out, words, 3, 6, name)
        self.assertEqual(told_out(words, 3, 6, "abcdefghij")[1], "abcdefghij")

    def test_nothing_is_changed(self):
        words = split_text("let k = x; give f(k, y);")
        for door, given in ((told_out, (8, 9, "m")), (put_in, ("k",)), (unused, ())):
            found = door(words, *given)
            found.append("zz")
            self.assertEqual(words, split_text("let k = x; give f(k, y);"))
            self.assertEqual(door(words, *given), found[:-1])
