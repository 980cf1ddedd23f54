from random import Random
from unittest import TestCase

from tests.drawing import drawn_text
from tests.plain import random_parts, random_type, room_of
from tests.samples import BAD_WORDS, base, days, raised, record
from typingroom.errors import BadWords, Dead, NotWhole
from typingroom.helping import meant, own_types
from typingroom.offering import broken
from typingroom.roomtexts import read_room
from typingroom.rooms import Room
from typingroom.words import split_text

A, B = base("a"), base("b")
ROOM = read_room("type a\ntype b\ntype c\nname x: a\nname y: b\nname r: {p: a, q: {p: b}}\n"
                 "fun f(): a\nfun f(u: a): a\nfun f(u: a, v: b): b\nfun f(u: b, v: b =): {p: a}\nfun f(u: {p: a}): b\n"
                 "fun g(u: a): {p: {q: b}}\nfun g(u: b): {p: {q: a}}\nfun g(u: b): {p: {q: a}}\nfun g(u: c): a\n"
                 "fun h(u: {p: a, q: b}): a\nfun h(u: {p: b}): a\nfun h(): b\n"
                 "goal a\n")


class Meant(TestCase):
    def check(self, text, *told):
        self.assertEqual(meant(ROOM, split_text(text)), list(told), text)

    def test_where_no_call_is_begun(self):
        for text in ["", "let", "let m", "let m =", "let m = x", "let m = f(x);", "give", "give x;", "give x",
                     "give f(x)", "give f(x);", "let m = {p: f(), q", "let m = h({p: y});"]:
            self.check(text)

    def test_behind_the_word_and_the_sign(self):
        self.check("give f", ("f", 0, (0, 1, 3)))
        self.check("give f(", ("f", 0, (0, 1, 3)))
        self.check("let m = f", ("f", 0, (0, 1, 2, 3, 4)))
        self.check("let m = f(", ("f", 0, (0, 1, 2, 3, 4)))
        self.check("let m = f(h", ("f", 0, (1, 2, 3)), ("h", 0, (0, 1, 2)))
        self.check("let m = f(h(", ("f", 0, (1, 2, 3)), ("h", 0, (0, 1, 2)))

    def test_arguments_in_front(self):
        self.check("let m = f(x", ("f", 0, (1, 2)))
        self.check("let m = f(y", ("f", 0, (3,)))
        self.check("let m = f(r", ("f", 0, (1, 2, 3, 4)))
        self.check("let m = f(r.q", ("f", 0, (3,)))
        self.check("let m = f(x,", ("f", 1, (2,)))
        self.check("let m = f(y,", ("f", 1, (3,)))
        self.check("let m = f(y, y", ("f", 1, (3,)))
        self.check("let m = f(g(y).p.q,", ("f", 1, (2,)))
        self.check("let m = f({", ("f", 0, (4,)))
        self.check("let m = f({p: x}", ("f", 0, (4,)))
        self.check("let m = g(", ("g", 0, (0, 1, 2)))
        self.check("let m = g(y", ("g", 0, (1, 2)))

    def test_what_stands_around(self):
        self.check("give f(x", ("f", 0, (1,)))
        self.check("give f(y", ("f", 0, (3,)))
        self.check("give f(r", ("f", 0, (1, 3)))
        self.check("give g(", ("g", 0, (1, 2)))
        self.check("give g(r", ("g", 0, (1, 2)))
        self.check("give f(g(", ("f", 0, (1, 3)), ("g", 0, (0, 1, 2)))
        self.check("give f(f(", ("f", 0, (1, 3)), ("f", 0, (0, 1, 2, 3, 4)))
        self.check("give f(f(x,", ("f", 0, (3,)), ("f", 1, (2,)))
        self.check("let m = f(x, f(", ("f", 1, (2,)), ("f", 0, (2, 4)))
        self.check("give f(y, f(x", ("f", 1, (3,)), ("f", 0, (2,)))

    def test_literals(self):
        self.check("give h({p: x, q: f(", ("h", 0, (0,)), ("f", 0, (2, 4)))
        self.check("give h({p: f(", ("h", 0, (0, 1)), ("f", 0, (0, 1, 2, 3, 4)))
        self.check("give h({p: f({p: f(", ("h", 0, (1,)), ("f", 0, (4,)), ("f", 0, (0, 1, 3)))
        self.check("give h({q: y, p: f(", ("h", 0, (0,)), ("f", 0, (0, 1, 3)))
        self.check("let m = {p: f(", ("f", 0, (0, 1, 2, 3, 4)))
        self.check("let m = {p: f({p: g(", ("f", 0, (4,)), ("g", 0, (1, 2)))
        self.check("let m = {p: f(x), q: {s: g(y", ("g", 0, (1, 2)))

    def test_names_of_lets(self):
        self.check("let m = {p: x, t: y}; let o = f(m", ("f", 0, (1, 2, 3, 4)))
        self.check("let m = {p: x}; let o = f(m.p", ("f", 0, (1, 2)))
        self.check("let m = x; give f(", ("f", 0, (0, 1, 3)))

    def test_signatures_that_are_told_twice(self):
        room = read_room("type a\ntype b\nname x: a\nfun f(u: a): a\nfun f(u: a): a\nfun f(u: b): a\nfun f(u: a): b\n"
                         "goal a")
        self.assertEqual(meant(room, split_text("give f(x")), [("f", 0, (0, 1))])
        self.assertEqual(meant(room, split_text("give f(")), [("f", 0, (0, 1, 2))])
        self.assertEqual(meant(room, split_text("give f(f(x")), [("f", 0, (0, 1, 2)), ("f", 0, (0, 1, 3))])

    def test_against_rooms_in_which_the_call_has_a_function_of_its_own(self):
        counts = {0: 0, 1: 0, 2: 0, 3: 0}
        barred = 0
        for number in range(500):
            random = Random(number)
            room, words = drawn_call(random)
            if words is None:
                continue
            found = meant(room, words)
            told = begun_calls(room, words)
            self.assertEqual([row[:2] for row in found], [row[1:] for row in told], words)
            counts[min(len(told), 3)] += 1
            for (place, function, _), row in zip(told, found):
                left = own_left(room, words, place, function)
                barred += len(left) < len(room.functions[function])
                self.assertEqual(row[2], left, (room.functions, words, place))
        self.assertGreater(min(counts.values()), 15)
        self.assertGreater(barred, 100)

    def test_dead_words(self):
        for text, place in [("give ;", 1), ("x", 0), ("give f(c", 3), ("give f(x, y)", 4), ("give x; ;", 3),
                            ("give f(x, y", 4)]:
            self.assertEqual(raised(Dead, meant, ROOM, split_text(text)).place, place, text)
            self.assertEqual(broken(ROOM, split_text(text)), place, text)
        self.assertEqual(raised(Dead, meant, read_room("type a\ngoal a"), []).place, 0)

    def test_bad_words(self):
        for words in BAD_WORDS:
            raised(BadWords, meant, ROOM, words)
            raised(BadWords, meant, read_room("type a\ngoal a"), words)
        self.assertEqual(meant(ROOM, ("give", "f")), [("f", 0, (0, 1, 3))])

    def test_calls_in_calls_as_deep_as_texts_go(self):
        words = ["give"] + ["f", "("] * 99
        found = meant(ROOM, words)
        self.assertEqual([len(found), found[0], found[-1]], [99, ("f", 0, (1, 3)), ("f", 0, (0, 1, 2, 3, 4))])


def drawn_call(random):
    """A drawn room, and words that are not dead in it, often within calls; no words if it has no right text."""
    parts, fields = random_parts(random.randint(0, 10 ** 6), 3, 3)
    parts["names"]["w"] = random_type(random, parts["bases"], fields, 2)
    room = room_of(parts)
    if broken(room, []) is not None:
        return room, None
    words = drawn_text(random, room)
    for _ in range(6):
        likely = [word for word in ["f", "g", "h", "(", "{", ":", "p", ",", "w"] if broken(room, words + [word]) is None]
        if likely:
            words.append(random.choice(likely))
    return room, words if broken(room, words) is None else words[:broken(room, words)]


def begun_calls(room, words):
    """The place, the function and the number of arguments in front of each call that is begun and not ended."""
    opened = []
    for place, word in enumerate(words):
        before = words[place - 1] if place else ""
        is_expression = before in ("give", "=", "(", ":") or before == "," and opened[-1][0] is not None
        if is_expression and word in room.functions:
            opened.append([place, word, 0])
        elif word == "{":
            opened.append([None])
        elif word in (")", "}"):
            opened.pop()
        elif word == "," and opened[-1][0] is not None:
            opened[-1][2] += 1
    return [tuple(row) for row in opened if row[0] is not None]


def own_left(room, words, place, function):
    """The signatures with which alone, as those of another function in the call's place, the words are not dead."""
    found = []
    for number, signature in enumerate(room.functions[function]):
        functions = {**room.functions, "only": [signature]}
        bases = list(room.above)
        order = [(base, above) for base in bases for above in room.above[base]]
        other = Room(bases, order, room.names, functions, room.goal)
        if broken(other, words[:place] + ["only"] + words[place + 1:]) is None:
            found.append(number)
    return tuple(found)


class OwnTypes(TestCase):
    def check(self, text, name, *told, room=ROOM):
        self.assertEqual(own_types(room, split_text(text), name), list(told), (text, name))

    def test_names_of_the_room(self):
        self.check("give x;", "x", A)
        self.check("give x;", "y", B)
        self.check("give x;", "r", record(p=A, q=record(p=B)))
        self.check("let m = x; give zz(zz).zz;", "x", A)

    def test_names_of_lets(self):
        self.check("let m = f(x); give x;", "m", A)
        self.check("let m = r.q; give x;", "m", record(p=B))
        self.check("let m = r; let o = m.q.p; give x;", "o", B)
        self.check("let m = {q: x, p: {}}; give x;", "m", record(p=record(), q=A))
        room = read_room("type b below a\ntype a\nname x: b\nfun f(u: a): {q: a}\nfun f(u: b): b\nfun f(u: b): {p: b}\n"
                         "fun f(u: {}): {p: {}}\nfun f(u: b): {q: a}\ngoal a")
        self.check("let m = f(x); give x;", "m", base("b"), record(p=base("b")), record(q=base("a")), room=room)
        self.check("let m = {s: f(x), t: f(f(x))}; give x;", "m", *sorted(
            [record(s=one, t=other) for one in [base("b"), record(p=base("b")), record(q=base("a"))]
             for other in [base("b"), record(p=base("b")), record(q=base("a")), record(p=record())]]), room=room)
        self.check("let m = f(x).q; let o = f(m); give x;", "o", record(q=base("a")), room=room)

    def test_names_that_there_are_not(self):
        for name in ["m", "f", "zz", "give", "let", "any", "", ";", "?", None, 3]:
            self.check("let o = x; give x;", name)

    def test_the_give_may_be_wrong(self):
        for text in ["give zz;", "give y;", "give x.p.q.r;", "give zz(x, {p: x, p: x}).q;", "give {p: {}, p: {}};",
                     "give f(g(), {}, zz(r));", "give {};", "give m(m);", "give x(x);", "give f;", "give m.m.m;"]:
            self.check("let m = x; " + text, "m", A)

    def test_texts_that_are_not_whole(self):
        for text in ["", "give", "give x", "give x; ;", "give x; give x;", "give x; let o = x;", "give ;", "x", "give f(;",
                     "give f(x;", "give f(x,);", "give f(,x);", "give {p};", "give {p: };", "give {p: x,};", "give {p: x;",
                     "give {}.p;", "give x.;", "give .x;", "give x y;", "give x(y)(y);", "give {p: x} y;", "give (x);",
                     "give f(x));", "give {p: x}};", "give x = y;", "let m = x;", "give {: x};", "give {x, p: y};",
                     "give x.(y);", "give x.p(y);", "let give x;", "give let;", "give f(let);", "give {let: x};", "give x.give;"]:
            raised(NotWhole, own_types, ROOM, split_text(text), "x")
            raised(NotWhole, own_types, ROOM, split_text("let m = x;" + text), "m")

    def test_lets_that_are_not_right(self):
        for text in ["let m = zz; give x;", "let x = y; give x;", "let f = x; give x;", "let m = x; let m = x; give x;",
                     "let m = m; give x;", "let m = x.p; give x;", "let m = f; give x;", "let m = g(); give x;",
                     "let m = {p: x, p: x}; give x;", "let m = {}.p; give x;", "let m x; give x;", "let m = x give x;",
                     "let m = f(x, x); give x;", "let m = x; let o = {m: zz}; give x;", "let = x; give x;",
                     "let m = g(x).p.p; give x;"]:
            for name in ["x", "m", "zz"]:
                raised(NotWhole, own_types, ROOM, split_text(text), name)

    def test_bad_words_come_first(self):
        for words in BAD_WORDS:
            raised(BadWords, own_types, ROOM, words, "x")
        raised(BadWords, own_types, ROOM, ["give", "?", ";"], "x")
        self.assertEqual(own_types(ROOM, ("give", "x", ";"), "x"), [A])

    def test_where_nothing_can_be_right(self):
        room = read_room("type a\ntype b\nname x: b\ngoal a")
        self.check("let m = x; give x;", "m", B, room=room)

    def test_what_is_returned_is_new(self):
        own_types(ROOM, ["give", "x", ";"], "x").append(B)
        self.check("give x;", "x", A)
        self.assertEqual(meant(days(), split_text("give meet (")), [("meet", 0, (0, 1))])
        meant(days(), split_text("give meet (")).append(1)
        self.assertEqual(meant(days(), split_text("give meet (")), [("meet", 0, (0, 1))])
