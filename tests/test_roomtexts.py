from unittest import TestCase

from tests.plain import random_parts, room_of
from tests.samples import DAYS, base, days, raised, record
from typingroom.errors import BadRoom, BadText
from typingroom.roomtexts import read_room, write_room
from typingroom.rooms import Room

A = base("a")
B = base("b")


class Reading(TestCase):
    def test_the_room_of_the_document(self):
        day, time = base("day"), base("time")
        who = record(name=day)
        self.assertEqual(days(), Room(["day", "time"], [("time", "day")], {"now": time, "plan": record(at=day, who=who)},
                                      {"meet": [([("when", time), ("note", day)], 1, record(id=time)),
                                                ([("who", who)], 1, day)]}, day))

    def test_tight_and_loose_texts(self):
        loose = ("\n  # a room\n   type   a   below  b ,b # of two\ntype b\n\n"
                 " name  x  :  { p : a , q : { } }#x\n"
                 "fun   f  (  u : a ,  v : b  = , w : { }  = )  :  { q:a,p:b }\n"
                 "#goal b\nfun f ( ) : a\n  goal   a  ")
        tight = "goal a\nfun f(u:a,v:b=,w:{}=):{p:b,q:a}\nfun f():a\nname x:{q:{},p:a}\ntype b\ntype a below b"
        empty = ("record", ())
        told = Room(["a", "b"], [("a", "b")], {"x": record(p=A, q=empty)},
                    {"f": [([("u", A), ("v", B), ("w", empty)], 1, record(p=B, q=A)), ([], 0, A)]}, A)
        self.assertEqual(read_room(loose), told)
        self.assertEqual(read_room(tight), told)

    def test_words_of_lines_can_be_told(self):
        told = read_room("type type below below\ntype below\ntype fun\nname name:type\nname goal: fun\n"
                         "fun fun(fun: below): type\ngoal {goal: type}")
        self.assertEqual(told, Room(["type", "below", "fun"], [("type", "below")],
                                    {"name": base("type"), "goal": base("fun")},
                                    {"fun": [([("fun", base("below"))], 1, base("type"))]}, record(goal=base("type"))))

    def test_several_base_types_above(self):
        told = read_room("type a below b, c\ntype b below d\ntype c\ntype d\ngoal a")
        self.assertEqual([told.is_below(A, base(word)) for word in "bcd"], [True, True, True])
        self.assertFalse(told.is_below(base("c"), base("d")))

    def test_signatures_are_in_order(self):
        told = read_room("type a\nfun f(): a\nfun g(): a\nfun f(u: a): a\ngoal a")
        self.assertEqual(told, Room(["a"], [], {}, {"f": [([], 0, A), ([("u", A)], 1, A)], "g": [([], 0, A)]}, A))


class Refusing(TestCase):
    def place(self, text):
        error = raised(BadText, read_room, text)
        return [error.line, error.column]

    def test_a_wrong_word_or_sign(self):
        for line, column in [
                ("types t", 1), ("Type t", 1), ("typet", 1), ("  ; type t", 3), ("type ;", 6), ("type any", 6),
                ("type abcdefghijk", 6), ("type t u", 8), ("type t belows u", 8), ("type t below", 13),
                ("type t below ,", 14), ("type t below u v", 16), ("type t below u,,v", 16), ("type t below let", 14),
                ("type t1", 7), ("type t below u;", 15), ("type\tt", 5),
                ("name x T", 8), ("name x: any", 9), ("name : a", 6), ("name give: a", 6), ("name x: a a", 11),
                ("name x: {p a}", 12), ("name x: {p: a q: a}", 15), ("name x: {p: a,}", 15), ("name x: {,}", 10),
                ("name x: {p: any}", 13), ("name x: {any: a}", 10), ("name x: }", 9), ("name x: {p: a}}", 15),
                ("name x: {p: {q: a}, r: {q a}}", 27), ("name x: {{p: a}}", 10), ("name x: (a)", 9),
                ("fun f a", 7), ("fun let(): a", 5), ("fun f(,): a", 7), ("fun f(u: a,): a", 12), ("fun f(u a): a", 9),
                ("fun f(u: a =, v: b): a", 19), ("fun f(u: a =, v: b, w: a =): a", 19), ("fun f(u: a == ): a", 13),
                ("fun f(): any", 10), ("fun f() a", 9), ("fun f(u: a: a", 11), ("fun f(=): a", 7), ("fun f(): a;", 11),
                ("fun f(u: a v: a): a", 12), ("goal a b", 8), ("goal any", 6), ("goal: a", 5), ("goal a, b", 7)]:
            self.assertEqual(self.place("# one\n" + line + "\ngoal a"), [2, column], line)
            self.assertEqual(self.place("# one\n" + line + " # two\ngoal a")[0], 2, line)

    def test_the_first_one_is_told(self):
        self.assertEqual(self.place("type a\n\nname x; a\nnome y: a"), [3, 7])
        self.assertEqual(self.place("goal a\ntype 1 2\n"), [2, 6])
        self.assertEqual(self.place("name x: a\nname y z\nname x: a"), [2, 8])

    def test_what_is_there_already(self):
        self.assertEqual(self.place("type a\ntype b\n type  a\ngoal a"), [3, 8])
        self.assertEqual(self.place("type a\nname x: a\nname x: a\ngoal a"), [3, 6])
        self.assertEqual(self.place("name x: {p: a, q: a, p: b}\ngoal a"), [1, 22])
        self.assertEqual(self.place("goal {p: {q: a, q: a}, q: a}"), [1, 17])
        self.assertEqual(self.place("fun f(u: a, v: a, u: a): a\ngoal a"), [1, 19])
        self.assertEqual(self.place("goal a\ntype a\n  goal a"), [3, 3])
        read_room("type a\nname a: {a: {a: a}}\nfun f(a: a, f: a): a\nfun f(a: a): a\ngoal a")
        read_room("type a below b, b\ntype b\ngoal {p: {p: a}, q: {p: a}}")

    def test_a_line_that_ends_too_early(self):
        for line in ["type", "type a below", "type a below b,", "name", "name x", "name x:", "name x: {", "name x: {p",
                     "name x: {p:", "name x: {p: a", "name x: {p: a,", "fun", "fun f", "fun f(", "fun f(u", "fun f(u:",
                     "fun f(u: a", "fun f(u: a =", "fun f(u: a,", "fun f()", "fun f():", "goal", "goal {"]:
            self.assertEqual(self.place("type z\n" + line + "\ngoal z"), [2, len(line) + 1], line)
            self.assertEqual(self.place("type z\n" + line + "  # so\ngoal z"), [2, len(line) + 7], line)

    def test_no_goal(self):
        self.assertEqual(self.place("type a"), [2, 1])
        self.assertEqual(self.place("type a\n"), [3, 1])
        self.assertEqual(self.place(""), [2, 1])
        self.assertEqual(self.place("type a\n# goal a\n"), [4, 1])
        self.assertEqual(self.place("type a\ntype b below a\nname x: zz"), [4, 1])

    def test_no_string(self):
        for thing in [None, 5, True, b"goal a", ["type a", "goal a"]]:
            self.assertEqual(self.place(thing), [0, 0])

    def test_what_the_room_refuses(self):
        deep = "{f: " * 8 + "a" + "}" * 8
        for text in ["goal a", "type a\ngoal b", "type a below a\ngoal a", "type a below b\ntype b below a\ngoal a",
                     "type a below c\ngoal a", "type a\nname x: {p: b}\ngoal a", "type a\nfun f(u: b): a\ngoal a",
                     "type a\nname f: a\nfun f(): a\ngoal a", "type a\n" + "fun f(): a\n" * 7 + "goal a",
                     "type a\ngoal " + deep, "\n".join("type " + letter for letter in "abcdefghijklm") + "\ngoal a",
                     "type a\nfun f(t: a, u: a, v: a, w: a, x: a, y: a, z: a): a\ngoal a",
                     "type a\n" + "".join("name n" + letter + ": a\n" for letter in "abcdefghijklmnopqrstu") + "goal a",
                     "type a\ngoal " + "{f: " * 600 + "a" + "}" * 600]:
            raised(BadRoom, read_room, text)
        self.assertEqual(self.place("type a\nname x: zz\nname x: a\ngoal a"), [3, 6])
        read_room("type a\ngoal " + deep[4:-1])


class Writing(TestCase):
    def test_the_text_of_the_document(self):
        self.assertEqual(write_room(days()), DAYS)

    def test_all_in_order(self):
        told = read_room("goal {q: a, p: {}}\nfun g(v: {}, u: {s: a, r: b} =, w: b =): a\nname y: a\nfun f(): a\n"
                         "name x: {p: a, o: b}\nfun g(): b\ntype a below c, b\ntype c below d\ntype d\ntype b")
        self.assertEqual(write_room(told), "type a below b, c, d\ntype b\ntype c below d\ntype d\n"
                         "name x: {o: b, p: a}\nname y: a\nfun f(): a\n"
                         "fun g(v: {}, u: {r: b, s: a} =, w: b =): a\nfun g(): b\ngoal {p: {}, q: a}\n")

    def test_what_is_written_is_read_as_an_equal_room(self):
        for number in range(80):
            told = room_of(random_parts(number, most_names=3, most_functions=3)[0])
            text = write_room(told)
            self.assertEqual(read_room(text), told, text)
            self.assertEqual(write_room(read_room(text)), text)

    def test_what_is_no_room(self):
        for thing in [None, DAYS, 3, ["type a"], (["a"], [], {}, {}, A)]:
            raised(BadRoom, write_room, thing)
