from itertools import product
from random import Random
from unittest import TestCase

from tests.plain import expressions, is_below, is_right, random_parts, random_type, room_of
from tests.samples import BAD_WORDS, base, days, nested, raised, record
from typingroom.errors import BadWords, NotWhole
from typingroom.holes import hole, is_filling
from typingroom.kinds import is_type
from typingroom.manyholes import are_fillings, holes
from typingroom.roomtexts import read_room
from typingroom.words import split_text

A, B, C = base("a"), base("b"), base("c")
ROOM = read_room("type a below b\ntype b\ntype c\n"
                 "name x: a\nname y: b\nname z: c\nname r: {p: b, q: c}\n"
                 "fun f(u: b): c\nfun f(u: c): b\nfun f(u: {p: a}): b\nfun f(u: a, v: a =): b\nfun f(u: {}, v: c): b\n"
                 "fun g(u: {p: b, q: {s: c}}): {t: b}\nfun g(u: {p: {}}, v: b =): {t: {t: b}}\nfun g(): b\n"
                 "fun i(u: {p: b}): b\nfun i(u: {p: c, q: a}): b\nfun i(u: {p: {}}): c\n"
                 "goal b\n")


def holed(text):
    """Words of a text in which a hole is told as `hh`."""
    return ["?" if word == "hh" else word for word in split_text(text)]


class Telling(TestCase):
    def check(self, text, *told, room=ROOM):
        words = holed(text)
        self.assertEqual(hole(room, words), sorted(told), text)
        self.assertEqual(holes(room, words), [(kind,) for kind in sorted(told)], text)
        for kind in told:
            self.assertIs(is_filling(room, words, kind), True)
            self.assertIs(are_fillings(room, words, (kind,)), True)

    def test_a_whole_give(self):
        self.check("give hh;", B)
        self.check("give hh.p;", record(p=B))
        self.check("give hh.p.q;", record(p=record(q=B)))

    def test_arguments(self):
        self.check("give f(hh);", A, C, record(p=A))
        self.check("give f(hh, x);", A)
        self.check("give f(hh, z);", record())
        self.check("give f(hh, y);")
        self.check("give f(x, hh);", A)
        self.check("give f(r, hh);", C)
        self.check("give f(f(hh));", B)
        self.check("give f(f(f(hh)));", A, C, record(p=A))
        self.check("give f(f(hh.p.q));", record(p=record(q=B)))

    def test_fields_of_literals(self):
        self.check("give i({p: hh});", B)
        self.check("give f(i({p: hh}));", record())
        self.check("give i({p: hh, q: x});", C)
        self.check("give i({q: hh, p: z});", A)
        self.check("give i({q: hh, p: y});")
        self.check("give g({p: y, q: {s: hh}}).t;", C)
        self.check("give g({p: hh, q: {s: z}}).t;", B)
        self.check("give g({p: hh}).t.t;", record())
        self.check("give g({p: hh}, x).t.t;", record())
        self.check("give g({p: hh}, x).t;")
        self.check("give i({p: hh, p: x});")
        self.check("give {p: hh};")

    def test_fields_behind(self):
        self.check("give g(hh).t;", record(p=B, q=record(s=C)))
        self.check("give g(hh).t.t;", record(p=record()))
        self.check("give g(hh).s;")
        self.check("give i({p: hh.p.q});", record(p=record(q=B)))
        self.check("give f(hh.p);", record(p=A), record(p=C), record(p=record(p=A)))

    def test_lets_in_front(self):
        self.check("let k = x; let m = {p: k, q: z}; give f(k, hh);", A)
        self.check("let k = {p: r, q: z}; give f(k, hh);", C)
        self.check("let k = y; give f(hh, k);")
        self.check("let k = r; give f(hh, k.q);", record())

    def test_none_of_the_greatest_below_another_one(self):
        room = read_room("type a below b\ntype b below c\ntype c\ntype d\nname x: a\n"
                         "fun f(u: a): c\nfun f(u: b): a\nfun f(u: {p: c}): b\nfun f(u: {p: b}): b\nfun f(u: d): d\n"
                         "fun f(u: {p: b, q: c}): c\nfun g(u: {}, v: a): a\nfun g(u: d, v: a =): c\n"
                         "fun g(u: c, v: b =): c\ngoal c")
        self.check("give f(hh);", B, record(p=C), room=room)
        self.check("give g(hh, x);", base("c"), base("d"), record(), room=room)
        self.check("give g(hh);", base("c"), base("d"), room=room)
        self.check("give f(f(hh));", B, record(p=C), room=room)

    def test_what_can_be_nothing(self):
        for text in ["give hh.p.q.s.t.u.a.b.c;", "give zz(hh);", "give f(hh, zz);", "give x(hh);", "give f(hh, x, x);",
                     "give i({p: hh, q: zz});", "give f(x, {p: hh});", "give f(hh).p;", "give f(hh.p, g());",
                     "give {p: {q: hh}};", "give f({p: {q: hh}});"]:
            self.check(text)

    def test_nested_eight_deep(self):
        self.check("give hh" + ".p" * 7 + ";", wrapped("p" * 7, B))
        self.check("give hh" + ".p" * 8 + ";")
        self.check("give f(hh" + ".p" * 7 + ");", wrapped("p" * 7, A), wrapped("p" * 7, C))
        self.check("give f(hh" + ".p" * 6 + ");", wrapped("p" * 6, A), wrapped("p" * 6, C), wrapped("p" * 7, A))
        self.check("give hh" + ".p" * 90 + ";")
        room = read_room("type a\nfun f(u: {p: {p: {}}}): a\nfun f(u: {p: {}}): a\nfun f(u: {}): a\ngoal a")
        self.check("give f(hh);", record(), room=room)
        self.check("give f(hh" + ".p" * 5 + ");", wrapped("p" * 5, record()), room=room)
        self.check("give f(hh" + ".p" * 7 + ");", wrapped("p" * 7, record()), room=room)
        self.assertTrue(is_type(wrapped("p" * 7, record())))
        room = read_room("type a\nfun f(u: {p: {p: {}}}): a\nfun g(u: {}): a\ngoal a")
        self.check("give f(hh" + ".p" * 5 + ");", wrapped("p" * 7, record()), room=room)
        self.check("give f(hh" + ".p" * 6 + ");", room=room)
        self.assertIs(is_filling(room, holed("give f(hh" + ".p" * 6 + ");"), wrapped("p" * 8, record())), False)
        self.assertIs(is_filling(room, holed("give g(hh);"), nested(8)), True)
        self.assertIs(is_filling(room, holed("give g(hh);"), nested(9)), False)

    def test_a_text_as_deep_as_texts_go(self):
        room = read_room("type a\ntype b\nname x: a\nfun f(u: a): a\nfun f(u: b): a\nfun f(u: b): b\ngoal a")
        words = ["give"] + ["f", "("] * 65 + ["?"] + [")"] * 65 + [";"]
        self.assertEqual(hole(room, words), [A, B])
        words = ["give"] + ["f", "(", "{", "p", ":"] * 28 + ["?"] + ["}", ")"] * 28 + [";"]
        self.assertEqual([len(words), hole(room, words)], [199, []])


def wrapped(fields, kind):
    for field in fields:
        kind = record(**{field: kind})
    return kind


class Filling(TestCase):
    def test_told_ones(self):
        for text, kind, told in [
                ("give hh;", A, True), ("give hh;", B, True), ("give hh;", C, False), ("give hh;", record(), False),
                ("give f(hh);", B, False), ("give f(hh);", record(p=A, q=B), True), ("give f(hh);", record(p=B), False),
                ("give hh.p;", record(p=A, s=record()), True), ("give hh.p;", B, False),
                ("give f(hh, z);", record(), True), ("give f(hh, z);", record(t=C), True), ("give f(hh, z);", A, False),
                ("give zz(hh);", A, False), ("give zz(hh);", record(), False)]:
            self.assertIs(is_filling(ROOM, holed(text), kind), told, (text, kind))
            self.assertIs(are_fillings(ROOM, holed(text), (kind,)), told, (text, kind))

    def test_what_is_no_type(self):
        for kind in [("any",), None, ("base", "any"), ("record", (("p", A), ("p", A))), ("base",), [], 3]:
            self.assertIs(is_filling(ROOM, holed("give f(hh, z);"), kind), False)


class NotSuch(TestCase):
    def refused(self, text):
        words = holed(text)
        raised(NotWhole, hole, ROOM, words)
        raised(NotWhole, is_filling, ROOM, words, A)
        raised(NotWhole, holes, ROOM, words)
        raised(NotWhole, are_fillings, ROOM, words, (A,))

    def test_texts_without_a_hole(self):
        for text in ["give x;", "give f(x);", "let k = x; give k;", "give zz;"]:
            self.refused(text)

    def test_two_holes_are_for_several_alone(self):
        words = holed("give f(hh, hh);")
        raised(NotWhole, hole, ROOM, words)
        raised(NotWhole, is_filling, ROOM, words, A)
        self.assertEqual(holes(ROOM, words), [(A, A), (record(), C)])

    def test_holes_that_are_not_in_the_place_of_a_name_in_the_give(self):
        for text in ["let k = hh; give x;", "let hh = x; give x;", "let k = f(hh); give k;", "give x.hh;", "give hh(x);",
                     "give hh();", "give {hh: x};", "give f(x hh);", "hh x;", "give x hh", "give x; hh", "hh", "hh give x;",
                     "give x hh;", "give hh hh;", "let k = hh; give hh;", "let k hh x; give hh;", "give i({p hh x});"]:
            self.refused(text)

    def test_texts_that_are_not_whole(self):
        for text in ["", "give", "give hh", "give hh.", "give hh;;", "give hh; give x;", "give f(hh;", "give f(hh,);",
                     "give hh.;", "give {p: hh,};", "give {p: hh}.p;", "give (hh);", "give f(,hh);", "give f(hh));",
                     "let k = x; hh;", "give hh = x;", "give f(hh)(x);", "give f(hh) x;", "give let;", "give f(hh, let);",
                     "give hh.give;", "give {p hh};", "give hh let"]:
            self.refused(text)

    def test_lets_that_are_not_right(self):
        for text in ["let k = zz; give hh;", "let x = y; give hh;", "let k = f(y, y); give hh;", "let f = x; give hh;",
                     "let k = x; let k = x; give hh;", "let k = {p: x, p: x}; give hh;", "let k = g; give hh;",
                     "let k = k; give hh;", "let k x; give hh;"]:
            self.refused(text)

    def test_bad_words_come_first(self):
        given = [words for words in BAD_WORDS if words != ["?"]]
        for words in given + [["?", "any"], ["?"] * 201, ["give", "?", "??"], "?", [["?"]], ["?", 3], ["!"]]:
            for room in [ROOM, read_room("type a\ngoal a")]:
                raised(BadWords, hole, room, words)
                raised(BadWords, is_filling, room, words, A)
                raised(BadWords, holes, room, words)
                raised(BadWords, are_fillings, room, words, (A,))
        raised(NotWhole, hole, ROOM, ["?"] * 200)
        raised(NotWhole, hole, ROOM, ["?"])
        self.assertEqual(hole(ROOM, ("give", "?", ";")), [B])

    def test_what_is_returned_is_new(self):
        words = holed("give hh;")
        hole(ROOM, words).append(A)
        holes(ROOM, words).append(A)
        self.assertEqual([hole(ROOM, words), holes(ROOM, words), words], [[B], [(B,)], ["give", "?", ";"]])
        self.assertEqual(hole(days(), holed("give hh.at;")), [record(at=base("day"))])


class Several(TestCase):
    def check(self, room, text, *told):
        self.assertEqual(holes(room, holed(text)), sorted(told), text)
        for row in told:
            self.assertIs(are_fillings(room, holed(text), row), True)

    def test_told_ones(self):
        room = read_room("type a below b\ntype b\ntype c\nname x: a\n"
                         "fun f(u: a, v: b): b\nfun f(u: b, v: a): b\nfun f(u: c, v: c =): c\nfun f(u: {p: a}, v: b): b\n"
                         "fun g(u: {p: a, q: b}, v: c =): b\nfun g(u: {p: c, q: c}): a\nfun g(u: b): {t: b}\n"
                         "fun g(u: c): {t: c}\nfun h(u: a): a\nfun h(u: b): c\ngoal b")
        self.check(room, "give f(hh, hh);", (A, B), (B, A), (record(p=A), B))
        self.check(room, "give f(hh, hh.q);", (A, record(q=B)), (B, record(q=A)), (record(p=A), record(q=B)))
        self.check(room, "give g({q: hh, p: hh});", (B, A), (C, C))
        self.check(room, "give g({q: hh, p: hh}, hh);", (B, A, C))
        self.check(room, "give f(h(hh), f(hh, hh));", (A, A, B), (A, B, A), (A, record(p=A), B))
        self.check(room, "give f({p: hh}, h(hh));", (A, A))
        self.check(room, "give g(hh).t;", (B,))
        self.check(room, "give f(hh, hh, hh);")
        self.check(room, "give {p: hh, q: hh};")
        self.check(room, "give f(hh" + ".p" * 7 + ", hh);", (wrapped("p" * 7, A), B), (wrapped("p" * 7, B), A))
        self.check(room, "give f(hh" + ".p" * 7 + ", hh" + ".q" * 8 + ");")
        self.check(room, "let k = x; give f(f(hh, k), h(hh));", (B, A), (record(p=A), A))

    def test_holes_that_do_not_hang_together(self):
        room = read_room("type a\ntype b\nfun f(u: a): a\nfun f(u: b): a\nfun g(u: {p: a, q: {p: a}}): a\ngoal a")
        self.check(room, "give g({p: f(hh), q: {p: f(hh)}});", (A, A), (A, B), (B, A), (B, B))
        self.check(room, "give g({q: {p: f(hh.s)}, p: hh});", (record(s=A), A), (record(s=B), A))

    def test_fillings_of_another_length(self):
        room = read_room("type a\nname x: a\nfun f(u: a, v: a): a\ngoal a")
        words = holed("give f(hh, hh);")
        for kinds, told in [((A, A), True), ((A,), False), ((), False), ((A, A, A), False), ((A, record()), False),
                            ((("any",), A), False)]:
            self.assertIs(are_fillings(room, words, kinds), told, kinds)
        self.assertIs(are_fillings(room, holed("give hh;"), (A,)), True)

    def test_as_many_as_go(self):
        room = read_room("type a\ntype b\nfun f(u: a, v: a): a\nfun f(u: b, v: b): a\ngoal a")
        text = "hh"
        for _ in range(2):
            text = f"f({text}, {text})"
        self.assertEqual(holes(room, holed(f"give {text};")),
                         sorted([(one, one, other, other) for one in [A, B] for other in [A, B]]))
        text = "f(f(f(hh, hh), f(hh, hh)), f(f(hh, hh), f(hh, hh)))"
        self.assertEqual(len(holes(room, holed(f"give {text};"))), 16)


class AgainstTrials(TestCase):
    """What is told of holes, against names of all types of a small room that are put in their places."""

    def test_one_hole(self):
        counts = [self.compare(number, 1) for number in range(250)]
        self.assertGreater(sum(told > 1 for told in counts), 15)
        self.assertGreater(sum(told == 1 for told in counts), 50)
        self.assertGreater(sum(told == 0 for told in counts), 50)

    def test_two_and_three_holes(self):
        counts = [self.compare(number, 2) for number in range(1000, 1150)]
        counts += [self.compare(number, 3) for number in range(2000, 2100)]
        self.assertGreater(sum(told > 1 for told in counts), 15)
        self.assertGreater(sum(told == 1 for told in counts), 20)
        self.assertGreater(sum(told == 0 for told in counts), 20)

    def compare(self, number, many):
        random = Random(number)
        parts, fields = self.parts(random)
        words = self.words(random, parts, fields, many)
        room = room_of(parts)
        kinds = self.kinds(parts, fields, 3 if many < 3 else 2)
        if many == 1:
            self.assertEqual(holes(room, words), [(kind,) for kind in hole(room, words)])
        greatest = holes(room, words)
        self.assertEqual(greatest, sorted(greatest))
        for row in greatest:
            self.assertTrue(self.goes(parts, words, row), (parts, words, row))
            self.assertFalse(any(other != row and self.below(parts, row, other) for other in greatest))
        rows = list(product(kinds, repeat=many))
        for row in random.sample(rows, min(len(rows), 400)):
            told = self.goes(parts, words, row)
            self.assertIs(any(self.below(parts, row, other) for other in greatest), told, (parts, words, row))
            if random.random() < 0.1:
                self.assertIs(are_fillings(room, words, row), told)
                if many == 1:
                    self.assertIs(is_filling(room, words, row[0]), told)
        return len(greatest)

    def parts(self, random):
        parts, fields = random_parts(random.randint(0, 10 ** 6), 2, 2)
        for word, many in [("f", 2), ("g", 1), ("h", 1)]:
            rows = []
            for _ in range(random.randint(2, 4)):
                parameters = [(other, random_type(random, parts["bases"], fields, 2)) for other in ["u", "v"][:many]]
                result = parts["goal"] if random.random() < 0.5 else random_type(random, parts["bases"], fields, 2)
                rows.append((parameters, random.randint(1, many), result))
            parts["functions"][word] = rows
        return parts, fields

    def words(self, random, parts, fields, many):
        """A whole text with so many holes, and perhaps a let, in which much fits."""
        front = ["let", "k", "="] + random.choice([["h", "(", "x", ")"], ["x"], ["{", "p", ":", "x", "}"]]) + [";"]
        if "x" not in parts["names"] or not is_right(
                dict(parts, names={**parts["names"], "zzz": parts["goal"]}), front + ["give", "zzz", ";"]):
            front = []
        names = ["n"] if many == 3 else ["n"] + list(parts["names"])[:1] + (["k"] if front else [])
        fewer = dict(parts, functions={word: parts["functions"][word] for word in random.choice(["fg", "fh"])})
        found = expressions(fewer, names, fields[:1], 11 if many == 3 else 9, {})
        able = [words for number in found for words in found[number] if words.count("n") == many and words[0] != "{"]
        words = random.choice(able or [["n", ".", "p"] + ["(", "n", ")"] * (many - 1)])
        return front + ["give"] + ["?" if word == "n" else word for word in words] + [";"]

    def kinds(self, parts, fields, deep):
        found = [("base", base) for base in parts["bases"]]
        for _ in range(deep - 1):
            rows = [[]]
            for field in fields:
                rows = [row + more for row in rows for more in [[]] + [[(field, kind)] for kind in found]]
            found = [("base", base) for base in parts["bases"]] + [("record", tuple(row)) for row in rows]
            if len(found) > 60:
                return found[:60]
        return found

    def goes(self, parts, words, row):
        names = {f"hole{letter}": kind for letter, kind in zip("abc", row)}
        rest = list(names)
        words = [rest.pop(0) if word == "?" else word for word in words]
        return is_right(dict(parts, names={**parts["names"], **names}), words)

    def below(self, parts, row, other):
        return all(is_below(parts, one, kind) for one, kind in zip(row, other))
