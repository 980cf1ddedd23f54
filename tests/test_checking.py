from unittest import TestCase

from tests.plain import random_parts, right_texts, room_of
from tests.plain import is_right as is_plainly_right
from tests.samples import days, raised
from typingroom.checking import is_right
from typingroom.errors import BadWords
from typingroom.roomtexts import read_room
from typingroom.words import split_text

ROOM = read_room("type a below b\ntype b\ntype c\n"
                 "name x: a\nname y: b\nname z: c\nname r: {p: a, q: {s: b}}\nname e: {}\n"
                 "fun f(u: a): c\nfun f(u: b, v: c =): a\nfun f(u: c, v: c, w: c =): {p: c}\n"
                 "fun g(): {p: a}\nfun g(u: b =): {q: b}\nfun g(u: {p: b, q: c}): {p: c, r: {p: a}}\n"
                 "fun h(u: {}): b\nfun i(u: {p: {q: b}}): b\nfun k(u: c): c\nfun k(u: c): a\n"
                 "goal b\n")


class Right(TestCase):
    def right(self, *texts):
        for text in texts:
            self.assertIs(is_right(ROOM, split_text(text)), True, text)

    def wrong(self, *texts):
        for text in texts:
            self.assertIs(is_right(ROOM, split_text(text)), False, text)

    def test_names(self):
        self.right("give x;", "give y;")
        self.wrong("give z;", "give r;", "give e;", "give w;", "give f;", "give p;")

    def test_whole_texts_alone(self):
        self.wrong("", "give x", "give", "x;", "give x; give x;", "give x;;", "let", "let m", "let m =", "let m = x",
                   "let m = x;", "give ; x", "give x; let m = x;", "let m = x; let", "give (x);", "give x give y;",
                   "give let;", "give give;", "= x;", "let m x; give x;", "let = x; give x;", "let m = ; give x;",
                   "give x.;", "give .x;", "give f(x;", "give f x);", "give f(x,);", "give f(,x);", "give h({);",
                   "give h(});", "give i({p {q: y}});", "give i({p: {q: y},});", "give i({: {q: y}});", "give {}.p;",
                   "give f(x)(x);", "give x(y);", "give r.p();", "let m = x, give x;", "let m: x; give x;")
        self.right("let m = x; give x;")

    def test_fields_of_chains(self):
        self.right("give r.p;", "give r.q.s;", "give g().p;", "give g().q;", "give g(x).q;",
                   "give g({p: x, q: z}).r.p;")
        self.wrong("give r.q;", "give r.s;", "give r.p.p;", "give r.q.s.q;", "give g(x).p;", "give g().r;", "give e.p;",
                   "give f(z, z).p;", "give g({p: x, q: z}).p;", "give f(x).p;")

    def test_signatures(self):
        self.right("give f(x);", "give f(y);", "give f(y, z);", "give f(x, z);")
        self.wrong("give f(z);", "give f();", "give f(x, y);", "give f(y, z, z);", "give f(z, z);", "give f(r);")
        self.right("give f(f(x, z));", "give f(x, f(x));", "give f(y, k(z));")
        self.wrong("give f(f(z, z).p, z);")

    def test_numbers_of_arguments(self):
        self.right("give g().p;", "give g(x).q;", "let m = f(z, z); give x;", "let m = f(z, z, z); give x;")
        self.wrong("let m = f(z); give x;", "let m = f(z, z, z, z); give x;", "let m = f(); give x;", "let m = h(); give x;",
                   "let m = g(x, x); give x;", "let m = k(z, z); give x;")

    def test_several_own_types(self):
        self.right("give k(z);", "give f(k(z));", "give f(k(z), k(z));", "let m = k(z); give f(m, m);",
                   "let m = k(z); give m;", "let m = f(x); give m;", "let m = f(x); give f(m);", "let m = f(x); give f(x, m);")
        self.wrong("let m = f(z, z); give m;", "let m = f(y, z); give f(x, m);", "let m = g(x); give m.p;")
        self.right("let m = g(); give m.p;", "let m = g(); give m.q;", "let m = g(); let n = {p: m, q: m}; give n.q.p;")

    def test_literals_and_records(self):
        self.right("give i({p: {q: y}});", "give i({p: {q: x}});", "give g({p: y, q: z}).r.p;",
                   "give g({q: z, p: x}).r.p;", "give h({});", "give h(r);", "give h(e);", "give h(g());")
        self.wrong("give i({p: {q: z}});", "give i({p: {}});", "give i({p: {q: y, s: y}});", "give i({});",
                   "give i({p: {q: y}, p: {q: y}});", "give i({p: {q: y}, r: x});", "give i({q: {q: y}});",
                   "give h({p: x});", "give g({p: y}).r.p;", "give g({p: y, q: z, r: z}).r.p;",
                   "give g({p: y, q: y}).r.p;", "give g({p: z, q: z}).r.p;", "give h(x);")

    def test_literals_and_base_types(self):
        self.wrong("give {};", "give {p: x};", "give f({});", "give k({p: z});")

    def test_a_goal_that_is_a_record(self):
        room = read_room("type a\nname x: a\nname r: {p: a, q: a}\ngoal {p: a}")
        for text, answer in [("give {p: x};", True), ("give r;", True), ("give {p: x, q: x};", False),
                             ("give {};", False), ("let m = {p: x, q: x}; give m;", True), ("give {p: r.q};", True)]:
            self.assertIs(is_right(room, split_text(text)), answer, text)

    def test_lets(self):
        self.right("let m = x; let n = m; give n;", "let m = r; give m.q.s;", "let p = x; give p;", "let m = e; give x;",
                   "let u = x; give f(u);", "let a = z; give x;")
        self.wrong("let x = y; give x;", "let f = x; give x;", "let m = x; let m = x; give m;", "let m = m; give x;",
                   "let m = n; let n = x; give x;", "let m = w; give x;", "let m = x.p; give x;", "let m = f(r); give x;",
                   "let m = k; give x;", "let m = x; give n;", "let m = x; give m();", "let m = x; let n = m.p; give x;",
                   "let = = x; give x;", "let let = x; give x;", "let give = x; give x;")

    def test_lets_of_literals(self):
        self.right("let m = {}; give h(m);", "let m = {p: x}; give m.p;", "let m = {p: x, q: {r: {}}}; give m.p;",
                   "let m = {a: {q: y}, p: {q: x, z: z}}; give i(m);", "let m = {p: k(z), q: k(z)}; give m.q;",
                   "let m = {p: k(z), q: k(z)}; give g(m).r.p;", "let m = {p: f(x)}; let n = m.p; give f(y, n);",
                   "let m = {p: {q: {p: x}}}; give m.p.q.p;")
        self.wrong("let m = {p: x, p: x}; give x;", "let m = {p: {q: x, q: x}}; give x;", "let m = {p: w}; give x;",
                   "let m = {p: x}; give m;", "let m = {p: x}; give m.q;", "let m = {p: {q: z}}; give i(m);",
                   "let m = {p: x.p}; give x;", "let m = {p: f(r)}; give x;", "let m = {p: {q: {p: x}}}; give m.p.q;",
                   "let m = {x}; give x;", "let m = {p: x;}; give x;", "let m = {p: x; give x;")

    def test_the_room_of_the_document(self):
        room = days()
        for text, answer in [("give meet(plan.who);", True), ("give meet(now).id;", True), ("give meet(now);", False),
                             ("give meet(meet(now)).id;", False), ("give meet({name: now});", True),
                             ("give meet(now, plan.at).id;", True), ("give meet(plan.at).id;", False)]:
            self.assertIs(is_right(room, split_text(text)), answer, text)


class Arguments(TestCase):
    def test_tuples_too(self):
        self.assertIs(is_right(ROOM, ("give", "x", ";")), True)

    def test_long_texts(self):
        words = ["give"] + ["f", "("] * 65 + ["x"] + [")"] * 65 + [";"]
        self.assertIs(is_right(ROOM, words), True)
        words = ["give"] + ["h", "(", "{", "}", ")"]
        self.assertIs(is_right(ROOM, words + [";"]), True)
        lets = [word for letter in "abcdefghijklmnopqrstuvwxyz" for word in ["let", "v" + letter, "=", "x", ";"]]
        self.assertIs(is_right(ROOM, lets + ["give", "vz", ";"]), True)

    def test_bad_words(self):
        for words in [None, "give x;", ["give", "x", "?"], ["give", "any", ";"], ["give", "x"] + [";"] * 199, [1], {}]:
            raised(BadWords, is_right, ROOM, words)

    def test_the_words_stay_as_they_are(self):
        words = ["let", "m", "=", "x", ";", "give", "m", ";"]
        is_right(ROOM, words)
        self.assertEqual(words, ["let", "m", "=", "x", ";", "give", "m", ";"])


class PlainSearch(TestCase):
    """What is right by the words of point [5] alone, in small rooms."""

    def test_right_texts_and_their_neighbours(self):
        for number in range(60):
            parts, fields = random_parts(number)
            room = room_of(parts)
            for words in right_texts(parts, fields, ["k"], 9)[::7]:
                self.assertTrue(is_right(room, words), words)
                for place in range(len(words)):
                    for word in [None, "x", "y", "f", "k", "p", "}", ";"]:
                        other = words[:place] + ([] if word is None else [word]) + words[place + 1:]
                        self.assertIs(is_right(room, other), is_plainly_right(parts, other), (parts, other))
