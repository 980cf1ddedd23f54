from unittest import TestCase

from tests.samples import base, days, raised, record
from typingroom.errors import BadWords, Dead
from typingroom.offering import Offers, broken, completions, finish, offers
from typingroom.roomtexts import read_room
from typingroom.rooms import Room
from typingroom.words import split_text

ROOM = read_room("type a below b\ntype b\ntype c\ntype no\n"
                 "name x: a\nname z: c\nname r: {p: a, q: {s: b}}\n"
                 "fun f(u: a): c\nfun f(u: c, v: c =): b\nfun f(u: c, v: c, w: no =): a\nfun f(u: no): a\n"
                 "fun g(): {p: a}\nfun n(u: a, v: no): a\nfun i(u: {p: a, q: c}): b\n"
                 "fun i(u: {p: {}, r: a}): b\n"
                 "goal b\n")
# Each function needs what only the other one gives.
NOTHING = read_room("type a\ntype b\nname x: {p: {}}\nfun f(u: b): a\nfun g(u: a): b\ngoal a")


def words(text):
    return split_text(text)


class Broken(TestCase):
    def places(self, room, rows):
        wrong = [(text, place, broken(room, words(text))) for text, place in rows
                 if broken(room, words(text)) != place]
        self.assertEqual(wrong, [])

    def test_what_is_not_dead(self):
        text = words("let m = {p: x, q: f(z, z)}; let o = m.p; give f(f(o), f(x));")
        for end in range(len(text) + 1):
            self.assertIs(broken(ROOM, text[:end]), None, text[:end])

    def test_the_first_word_behind_which_words_are_dead(self):
        self.places(ROOM, [
            ("x", 0), ("; give x", 0), ("give ;", 1), ("give y;", 1), ("give z;", 1), ("give z.", 1), ("give r;", 2),
            ("give r.s;", 3), ("give r.p.", 4), ("give r.q;", 4), ("give r.q.s.s", 6), ("give f;", 2), ("give f()", 3),
            ("give f(x;", 3), ("give f(z;", 4), ("give f(z).", 5), ("give f(x, z)", 3), ("give f(z, x)", 5),
            ("give f(z, z, z)", 6), ("give f(f(z))", 5), ("give f(f(x));", None), ("give {", 1), ("give n", 1),
            ("give f(n", 3), ("give f(z, n", 5), ("give g();", 4), ("give g().p.", 6), ("give i({p: z", 6),
            ("give i({q: z, p: r}", 11), ("give i({s", 4), ("give i({p: x}", 7), ("give i({p: x, p", 8),
            ("give i({p: {}, q", 9), ("give i({p: {}, r", None), ("give i({}", 4), ("give i(r)", 3),
            ("give x; give", 3), ("let x", 1), ("let f = x;", 1), ("let let", 1), ("let give", 1), ("let ;", 1),
            ("let o x", 2), ("let o = ;", 3), ("let o = o;", 3), ("let o = n", 3), ("let o = f(z);", None),
            ("let o = f(z).", 7), ("let o = r.z", 5), ("let o = {p: x, p", 8), ("let o = {p: {p: x}, q: {p: n", 17),
            ("let o = {p: {p: x, p", 11), ("let o = f(z, z, ", 8), ("let o = x; let o", 6), ("let o = x; o", 5),
            ("let o = z; give o;", 6), ("let o = {p: x}; give o;", 11), ("let o = {p: x}; give o.q", 12),
            ("let o = {p: z}; give o", 10), ("let o = f(x); give o.", 9), ("x y z", 0)])

    def test_where_nothing_can_be_right(self):
        self.places(NOTHING, [("", 0), ("give", 0), ("let m = x;", 0), ("give f(g(", 0), ("; ;", 0)])
        room = read_room("type a\nname x: a\ngoal {p: a, q: {r: {s: {}}, t: {p: a, q: {}}}}")
        self.assertIs(broken(room, []), None)
        room = read_room("type a\ntype b\nname x: {p: a}\ngoal {p: a, q: b}")
        self.assertEqual(broken(room, words("give {")), 0)

    def test_the_room_of_the_document(self):
        self.places(days(), [("give plan.at.", 4), ("give plan.at;", None), ("give meet(now);", 5),
                             ("give meet(now, {", 5), ("give meet(plan)", 4), ("give meet(plan.who);", None)])

    def test_bad_words(self):
        for given in [None, "give", ["give", "?"], ["any"], ["give"] * 201, [["give"]], 3]:
            raised(BadWords, broken, ROOM, given)
        self.assertEqual(broken(ROOM, ["give"] * 200), 1)
        self.assertEqual(broken(ROOM, ("give", "f", "(", "z", ";")), 4)


class Told(TestCase):
    def check(self, text, told, but=None, room=ROOM):
        found = offers(room, words(text))
        self.assertEqual([found.words, found.but], [told.split(), but], text)

    def test_statements(self):
        self.check("", "give let")
        self.check("let o = x;", "give let")
        self.check("give x;", "")
        self.check("let o = x; give o;", "")

    def test_words_of_lets(self):
        taken = ["f", "g", "i", "n", "r", "x", "z"]
        self.check("let", "", taken)
        self.check("let o = x; let a = x; let", "", sorted(taken + ["a", "o"]))
        self.check("let o", "=")
        self.check("let", "", [], read_room("type a\ngoal {}"))

    def test_expressions(self):
        self.check("give", "f g i r x")
        self.check("let o =", "f g i r x z {")
        self.check("let o = {p: x}; give", "f g i o r x")
        self.check("let o = z; give", "f g i r x")
        self.check("give f(", "f z")
        self.check("give f(z,", "f z")
        self.check("let o = f(", "f g r x z")
        self.check("let o =", "{", None, read_room("type a\ngoal {}"))

    def test_calls(self):
        self.check("give f", "(")
        self.check("give g(", ")")
        self.check("let o = g(", ")")
        self.check("give f(z", ") ,")
        self.check("give f(z, z", ")")
        self.check("give f(f(x", ")")
        self.check("give f(f(x)", ") ,")
        self.check("give f(z)", ";")
        self.check("give g()", ".")
        self.check("let o = g()", ". ;")
        self.check("let o = f(z)", ";")
        self.check("let o = f(x", ")")
        self.check("let o = f(z", ") ,")

    def test_fields_of_chains(self):
        self.check("give r", ".")
        self.check("give r.", "p q")
        self.check("give r.q", ".")
        self.check("give r.q.", "s")
        self.check("give r.p", ";")
        self.check("let o = r", ". ;")
        self.check("let o = r.q.s", ";")
        self.check("let o = f(r.", "p")
        self.check("let o = {p: z, q: {p: x}}; give o.", "q")
        self.check("let o = {p: z, q: {p: x}}; let t = o.", "p q")

    def test_literals_of_records(self):
        self.check("give i(", "{")
        self.check("give i({", "p q r")
        self.check("give i({p", ":")
        self.check("give i({p:", "f g r x {")
        self.check("give i({p: x", ",")
        self.check("give i({p: r", ", .")
        self.check("give i({p: x,", "q")
        self.check("give i({p: {", "}")
        self.check("give i({p: {}", ",")
        self.check("give i({p: g()", ", .")
        self.check("give i({p: g(),", "r")
        self.check("give i({p: g().", "p")
        self.check("give i({r: x,", "p")
        self.check("give i({r: x, p: r", ". }")
        self.check("give i({r: x, p: r}", ")")
        self.check("let o = i({", "p q r")

    def test_literals_where_any_can_stand(self):
        self.check("let o = {", "}", [])
        self.check("let o = {q", ":")
        self.check("let o = {q: x", ", }")
        self.check("let o = {q: r", ", . }")
        self.check("let o = {q: x,", "", ["q"])
        self.check("let o = {q: x, p: {", "}", [])
        self.check("let o = {q: x, p: {p: x, a: {},", "", ["a", "p"])
        self.check("let o = {q: x, p: {}, b: x,", "", ["b", "p", "q"])
        self.check("let o = {q: {}", ", }")
        self.check("let o = {q: {}}", ";")

    def test_the_room_of_the_document(self):
        self.check("give", "meet now plan", None, days())
        self.check("give meet(", "meet now plan {", None, days())
        self.check("give meet({", "name", None, days())
        self.check("give meet(now", ") ,", None, days())
        self.check("give meet(now)", ".", None, days())
        self.check("give meet(plan", ".", None, days())
        self.check("give meet(plan.", "who", None, days())

    def test_types_that_can_not_be_had(self):
        room = read_room("type a\ntype b\ntype c\nname x: a\nfun f(u: b): a\nfun g(u: a =, v: b =, w: a =): a\n"
                         "fun h(u: {p: b}): a\nfun i(u: c): b\nfun j(u: b): c\nfun k(u: {p: {q: b}}): {q: a}\n"
                         "fun l(u: {q: {}}): {p: b}\nfun l(u: {q: b}): a\ngoal a")
        self.check("give", "f g h k l x", None, room)
        self.check("give g(", ") f g h k l x", None, room)
        self.check("give g(x", ") ,", None, room)
        self.check("give l(", "{", None, room)
        self.check("give f(", "i l", None, room)
        without = read_room("type a\ntype b\ntype c\nname x: a\nfun f(u: b): a\nfun g(u: a =, v: b =, w: a =): a\n"
                            "fun h(u: {p: b}): a\nfun i(u: c): b\nfun j(u: b): c\nfun k(u: {p: {q: b}}): {q: a}\n"
                            "fun l(u: {q: b}): a\ngoal a")
        self.check("give", "g x", None, without)
        self.check("give g(", ") g x", None, without)
        self.check("give g(x", ")", None, without)
        self.check("let o =", "g x {", None, without)

    def test_an_expression_that_is_long(self):
        letters = "abcdefghijkl"
        lines = ["type " + letter for letter in letters] + ["name x: a", "goal l"]
        lines += [f"fun to{other}(u: {one}): {other}" for one, other in zip(letters, letters[1:])]
        room = read_room("\n".join(lines))
        self.check("give", "tol", None, room)
        self.check("give tol (", "tok", None, room)
        self.check("let o =", "tob toc tod toe tof tog toh toi toj tok tol x {", None, room)
        self.check("let o = tob", "(", None, room)
        self.check("let o = tob (", "x", None, room)
        self.assertEqual(len(finish(room, ["give"])), 11 * 3 + 2)

    def test_a_literal_that_is_long(self):
        room = read_room("type a\nname x: a\nfun f(u: {p: {p: a, q: {}}, q: {p: {}}}): a\ngoal {p: {q: a}}")
        self.check("give", "{", None, room)
        self.check("give {", "p", None, room)
        self.check("give {p: {q: f({q: {p: {}}, p: {q: {}", ",", None, room)
        self.check("give {p: {q: f({q: {p: {}}, p: {q: {},", "p", None, room)

    def test_what_needs_a_name_of_a_let(self):
        room = read_room("type a\nname x: a\nfun f(u: {p: a}): a\ngoal a")
        self.check("let o = {p: x, q: x}; give f(", "o {", None, room)
        self.check("let o = {q: x}; give f(", "{", None, room)
        self.check("let o = {q: {p: x, s: x}}; give f(o", ".", None, room)


class Asking(TestCase):
    def test_in(self):
        found = offers(ROOM, words("give f(z"))
        for word, answer in [(")", True), (",", True), ("z", False), (";", False), ("", False), (None, False)]:
            self.assertIs(word in found, answer, word)
        found = offers(ROOM, words("let o = {q: x,"))
        for word, answer in [("q", False), ("p", True), ("zz", True), ("x", True), ("o", True), ("let", False),
                             ("any", False), ("give", False), ("}", False), ("abcdefghij", True),
                             ("abcdefghijk", False), ("", False), ("A", False), (None, False), (3, False)]:
            self.assertIs(word in found, answer, word)
        self.assertIs("}" in offers(ROOM, words("let o = {")), True)

    def test_equality(self):
        self.assertTrue(Offers(["a", "b"], None) == Offers(("a", "b"), None))
        self.assertTrue(Offers([], ["a"]) == Offers((), ("a",)))
        for other in [Offers(["a"], None), Offers(["b", "a"], None), Offers(["a", "b"], []), ["a", "b"], None]:
            self.assertFalse(Offers(["a", "b"], None) == other)
            self.assertTrue(Offers(["a", "b"], None) != other)
        self.assertFalse(Offers([], []) == Offers([], None))
        self.assertTrue(offers(ROOM, ["give"]) == offers(ROOM, ("give",)))

    def test_attributes(self):
        given, but = ["}"], ["a"]
        told = Offers(given, but)
        given.append("x")
        but.append("b")
        self.assertEqual([told.words, told.but], [["}"], ["a"]])
        self.assertEqual(Offers((), ("a",)).but, ["a"])
        told.words = ["x"]
        told.but = None
        self.assertEqual(["x" in told, "}" in told, "zz" in told], [True, False, False])

    def test_what_is_returned_is_new(self):
        offers(ROOM, ["let"]).but.append("zz")
        offers(ROOM, ["give"]).words.append("zz")
        completions(ROOM, ["give"], "").append("zz")
        self.assertFalse("zz" in offers(ROOM, ["let"]).but + offers(ROOM, ["give"]).words)
        self.assertFalse("zz" in completions(ROOM, ["give"], ""))
        given = ["give", "f"]
        offers(ROOM, given)
        self.assertEqual(given, ["give", "f"])

    def test_equal_rooms_get_equal_answers(self):
        other = Room(("time", "day"), (("time", "day"),), dict(reversed(list(days().names.items()))),
                     {"meet": (((("when", base("time")), ("note", base("day"))), 1, record(id=base("time"))),
                               ((("who", record(name=base("day"))),), 1, base("day")))}, base("day"))
        self.assertEqual(other, days())
        for text in ["", "let", "give", "give meet(", "let o = {", "give meet({"]:
            self.assertEqual(offers(days(), words(text)), offers(other, words(text)))
            self.assertEqual(finish(days(), words(text)), finish(other, words(text)))


class Completions(TestCase):
    def test_letters_in_front(self):
        room = read_room("type a\nname me: a\nname my: a\nname you: a\nname m: a\n"
                         "fun meet(): a\nfun mit(u: a): a\ngoal a")
        for text, letters, told in [
                ("give", "m", "m me meet mit my"), ("give", "me", "me meet"), ("give", "meet", "meet"),
                ("give", "meets", ""), ("give", "", "m me meet mit my you"), ("", "", "give let"), ("", "g", "give"),
                ("", "le", "let"), ("give me", "", ""), ("give mit(", "y", "you"), ("give meet(", "", ""),
                ("let", "", ""), ("let o = {", "", ""), ("give me", ";", "")]:
            self.assertEqual(completions(room, words(text), letters), told.split(), (text, letters))

    def test_fields(self):
        self.assertEqual(completions(ROOM, words("give r."), "q"), ["q"])
        self.assertEqual(completions(ROOM, words("give i({"), ""), ["p", "q", "r"])


class Refusing(TestCase):
    def test_dead_words_tell_the_place_as_broken_does(self):
        for room, text in [(ROOM, "x"), (ROOM, "give f(x;"), (ROOM, "let x"), (ROOM, "give f(x) . p . q ;"),
                           (ROOM, "give x; give"), (NOTHING, ""), (NOTHING, "give f("), (ROOM, "give f(m")]:
            place = broken(room, words(text))
            self.assertIsNot(place, None)
            self.assertEqual(raised(Dead, offers, room, words(text)).place, place)
            self.assertEqual(raised(Dead, completions, room, words(text), "a").place, place)
            self.assertEqual(raised(Dead, finish, room, words(text)).place, place)

    def test_bad_words_come_first(self):
        for given in [["x", "?"], ["x"] * 201, None, "give", ["give", "any"], [[]]]:
            for room in [ROOM, NOTHING]:
                raised(BadWords, offers, room, given)
                raised(BadWords, completions, room, given, "a")
                raised(BadWords, finish, room, given)

    def test_200_words(self):
        given = ["let", "o", "="] + ["{", "p", ":"] * 65 + ["x", "}"]
        self.assertEqual(len(given), 200)
        self.assertEqual(offers(ROOM, given).words, [",", "}"])
        self.assertEqual(finish(ROOM, given).words, ["}"] * 64 + [";"])
