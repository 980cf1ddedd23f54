from unittest import TestCase

from tests.samples import base, days, raised, record
from typingroom.checking import is_right
from typingroom.errors import BadWords, Dead
from typingroom.offering import Finishing, finish
from typingroom.roomtexts import read_room
from typingroom.words import split_text

ANY = ("any",)
A, B, C = base("a"), base("b"), base("c")
ROOM = read_room("type a below b\ntype b\ntype c\ntype no\n"
                 "name x: {p: a}\nname y: {t: c}\nname z: c\n"
                 "fun f(u: c, v: {p: b, q: c}, w: no =): a\nfun f(u: {q: {}}): {r: {s: a}}\nfun g(u: b): c\n"
                 "fun h(u: c, v: {p: b, q: c} =): b\nfun i(u: no): c\n"
                 "goal {p: b, q: c}\n")
# By hand: x . p, x . p, z, x, { p : x . p , q : z }, { q : x }, and no number for what can not be had.
TABLE = {ANY: 1, B: 3, C: 1, record(p=B, q=C): 11, record(q=("record", ())): 5, ("record", ()): 1}


class Words(TestCase):
    def check(self, text, ending, room=ROOM):
        words = split_text(text)
        found = finish(room, words)
        self.assertEqual([len(found), len(found.words)], [len(split_text(ending))] * 2, (text, found.words))
        self.assertIs(found.shows(room, words), True, text)
        self.assertIs(Finishing(split_text(ending), found.table).shows(room, words), True, text)
        ended = words + found.words
        if "give" not in ended:
            ended += finish(room, ended).words
        self.assertTrue(is_right(room, ended), ended)

    def test_statements(self):
        self.check("", "give {p: x.p, q: z};")
        self.check("let m = z;", "give {p: x.p, q: z};")
        self.check("let m = {p: x.p, q: z, r: {}};", "give m;")
        self.check("let", "m = x;")
        self.check("let m", "= x;")
        self.check("let m =", "z;")
        self.check("give", "{p: x.p, q: z};")

    def test_literals(self):
        self.check("give {", "p: x.p, q: z};")
        self.check("give {q", ": z, p: x.p};")
        self.check("give {q:", "z, p: x.p};")
        self.check("give {q: z", ", p: x.p};")
        self.check("give {q: z,", "p: x.p};")
        self.check("give {q: z, p: x", ".p};")
        self.check("give {q: z, p: x.", "p};")
        self.check("give {q: z, p: x.p", "};")
        self.check("give {q: z, p: x.p}", ";")
        self.check("let m = {", "};")
        self.check("let m = {p", ": z};")
        self.check("let m = {p: z,", "q: z};")
        self.check("let m = {p: z, q: {", "}};")
        self.check("let m = {p: z, q: {p: {}", "}};")

    def test_calls(self):
        self.check("let m = f", "({q: x});")
        self.check("let m = f(", "{q: x});")
        self.check("let m = f({", "q: x});")
        self.check("let m = f({q: {", "}});")
        self.check("let m = f(z", ", {p: x.p, q: z});")
        self.check("let m = f(z,", "{p: x.p, q: z});")
        self.check("let m = f(z, {p: x", ".p, q: z});")
        self.check("let m = f(z, {q: z, p: x.p}", ");")
        self.check("let m = h(", "z);")
        self.check("let m = h(z", ");")
        self.check("let m = h(z,", "{p: x.p, q: z});")
        self.check("let m = h(z)", ";")
        self.check("give {p: f(", "{q: x}).r.s, q: z};")
        self.check("give {p: f({q: y}", ").r.s, q: z};")
        self.check("give {p: f({q: y}).", "r.s, q: z};")
        self.check("give {p: f({q: y}).r", ".s, q: z};")
        self.check("give {p: h(", "z), q: z};")
        self.check("give {q: g(h(g(", "x.p))), p: x.p};")

    def test_names_of_lets_are_names(self):
        self.check("let o = {p: x.p, q: z}; let v = f(z,", "o);")
        self.check("let o = {q: {}}; let v = f(", "o);")
        self.check("let o = x.p; give {p:", "o, q: z};")
        self.check("let o = {s: {t: {p: x.p, q: z}}}; give", "o.s.t;")
        self.check("let o = {p: x.p, q: z", "};")

    def test_without_names(self):
        room = read_room("type a\nfun f(): {p: a}\ngoal a")
        self.check("", "give f().p;", room)
        self.check("let", "m = {};", room)
        self.check("let m =", "{};", room)
        self.check("let m = f", "();", room)
        self.check("let m = {}; let n =", "m;", room)
        self.check("let m = {p: f()", "};", room)

    def test_further_arguments_are_left_out(self):
        room = read_room("type a\nname x: {p: {q: a}}\nname y: a\nfun f(u: a =, v: a =): {p: a}\n"
                         "fun g(u: a, v: {p: a}, w: a =): a\ngoal a")
        self.check("let m = f(", ");", room)
        self.check("let m = f(y", ");", room)
        self.check("let m = f(y,", "y);", room)
        self.check("give g(", "y, f());", room)
        self.check("give g(y, f()", ");", room)

    def test_the_words_of_lets_are_free(self):
        letters = "abcdefghijklmnopqrst"
        room = read_room("type a\n" + "".join(f"name {letter}: a\n" for letter in letters)
                         + "".join(f"fun {letter}(): a\n" for letter in "uvwxyz") + "goal a")
        for text in ["let", "let aa = a; let ab = a; let", "let zz = a; let"]:
            found = finish(room, split_text(text)).words
            self.assertTrue(is_right(room, split_text(text) + found + ["give", "a", ";"]), found)
        found = finish(room, split_text("let aa = {a: a, b: a,")).words
        self.assertTrue(is_right(room, split_text("let aa = {a: a, b: a,") + found + ["give", "a", ";"]), found)

    def test_a_long_end(self):
        letters = "abcdef"
        room = read_room("\n".join(["type " + letter for letter in letters] + ["name x: a", "goal f"]
                                   + [f"fun to{other}(u: {one}, v: {{p: {one}}}): {other}"
                                      for one, other in zip(letters, letters[1:])]))
        number = 1
        for _ in letters[1:]:
            number = 3 + number + 1 + (4 + number)
        found = finish(room, ["give"])
        self.assertEqual(len(found), number + 1)
        self.assertTrue(found.shows(room, ["give"]))

    def test_the_room_of_the_document(self):
        self.check("give meet(now", ").id;", days())
        self.check("give meet({", "name: now});", days())
        self.check("give plan.", "at;", days())


class Shows(TestCase):
    WORDS = split_text("give {q: z, p: f(")
    ENDING = split_text("{q: x}).r.s};")

    def shows(self, words, table, front=None):
        return Finishing(words, table).shows(ROOM, self.WORDS if front is None else front)

    def test_the_table(self):
        found = finish(ROOM, self.WORDS)
        self.assertEqual(found.table, TABLE)
        self.assertIs(self.shows(self.ENDING, TABLE), True)
        self.assertIs(self.shows(found.words, TABLE), True)

    def test_other_words(self):
        for text, answer in [("{q: y}).r.s};", True), ("{q: {}}).r.s};", False), ("{q: z}).r.s};", False), ("{q: x.p}).r.s};", False),
                             ("{q: x}).r.s}", False), ("{q: x}).r;", False), ("", False), (";", False),
                             ("{q: x}).r.s}; give x", False), ("{q: x}).r.s};;", False), ("{q: w}).r.s};", False),
                             ("z, {p: x.p, q: z})};", False), ("{q: x}).r.p};", False), ("{x: q}).r.s};", False)]:
            self.assertIs(self.shows(split_text(text), TABLE), answer, text)

    def test_other_lengths(self):
        self.assertIs(self.shows(self.ENDING[:-1], TABLE), False)
        self.assertIs(self.shows(self.ENDING[1:], TABLE), False)
        self.assertIs(self.shows(self.ENDING * 2, TABLE), False)
        self.assertIs(self.shows([";"] * 300, TABLE), False)
        self.assertIs(self.shows(["{"] * 300, TABLE), False)
        self.assertIs(self.shows([], TABLE), False)
        self.assertIs(self.shows([], TABLE, []), False)

    def test_each_number_one_higher_or_missing(self):
        for need in TABLE:
            self.assertIs(self.shows(self.ENDING, {**TABLE, need: TABLE[need] + 1}), False, need)
            self.assertIs(self.shows(self.ENDING, {**TABLE, need: 10 ** 30}), False, need)
            self.assertIs(self.shows(self.ENDING, {key: TABLE[key] for key in TABLE if key != need}), False, need)
        self.assertIs(self.shows(self.ENDING, {}), False)

    def test_numbers_that_are_too_low(self):
        self.assertIs(self.shows(self.ENDING, {**TABLE, record(q=("record", ())): 4}), False)
        self.assertIs(self.shows(self.ENDING, {**TABLE, record(q=("record", ())): -4}), False)
        # {} is less than {q: {}}, whose number is then too high.
        self.assertIs(self.shows(self.ENDING, {**TABLE, ("record", ()): 0}), False)
        self.assertIs(self.shows(self.ENDING, {**TABLE, B: 2}), False)
        # What the end does not need, and no rule makes other numbers too high of, may be too low.
        self.assertIs(self.shows(self.ENDING, {**TABLE, record(p=B, q=C): 10}), True)
        self.assertIs(self.shows(self.ENDING, {**TABLE, B: 2, record(p=B, q=C): 10}), True)
        self.assertIs(self.shows(self.ENDING, {**TABLE, ANY: 0}), True)
        self.assertIs(self.shows(self.ENDING, {**TABLE, ANY: -50}), True)

    def test_numbers_too_low_for_what_comes(self):
        front = split_text("let m = ")
        self.assertIs(self.shows(["x", ";"], TABLE, front), True)
        self.assertIs(self.shows(["x", ";"], {**TABLE, ANY: 0}, front), False)
        self.assertIs(self.shows(["{", "}", ";"], TABLE, front), False)
        self.assertIs(self.shows(["{", "}", ";"], {**TABLE, ANY: 2}, front), False)
        front = split_text("let m = {p: z")
        self.assertIs(self.shows(["}", ";"], TABLE, front), True)
        self.assertIs(self.shows(["}", ";"], {**TABLE, ANY: -3}, front), True)
        self.assertIs(self.shows(["}", ";"], {**TABLE, ANY: -4}, front), False)
        front = split_text("let m = h(z")
        self.assertIs(self.shows([")", ";"], TABLE, front), True)

    def test_other_keys(self):
        # Of other needs, too, no rule may undercut the number.
        self.assertIs(self.shows(self.ENDING, {**TABLE, A: 3}), True)
        self.assertIs(self.shows(self.ENDING, {**TABLE, A: 4}), False)
        self.assertIs(self.shows(self.ENDING, {**TABLE, record(p=A): 1}), True)
        self.assertIs(self.shows(self.ENDING, {**TABLE, record(p=A): 2}), False)
        self.assertIs(self.shows(self.ENDING, {**TABLE, record(w=C): 5}), True)
        self.assertIs(self.shows(self.ENDING, {**TABLE, record(w=C): 6}), False)
        self.assertIs(self.shows(self.ENDING, {**TABLE, base("zz"): 1000}), True)
        self.assertIs(self.shows(self.ENDING, {**TABLE, base("no"): 1000}), True)
        # A call of i takes less than c does, if no takes so little.
        self.assertIs(self.shows(self.ENDING, {**TABLE, base("no"): -3}), False)

    def test_needs_that_can_not_be_had_take_their_numbers_too(self):
        room = read_room("type a\ntype no\nname x: {p: a}\nfun f(u: no): a\nfun f(u: {q: a}): a\ngoal a")
        words = split_text("let m = f(")
        found = finish(room, words)
        self.assertEqual(len(found), 9)
        self.assertIs(found.shows(room, words), True)
        self.assertIs(Finishing(found.words, {**found.table, base("no"): 7}).shows(room, words), True)
        self.assertIs(Finishing(found.words, {**found.table, base("no"): 6}).shows(room, words), False)

    def test_names_of_lets_count(self):
        front = split_text("let m = {p: x.p, q: z}; give")
        self.assertEqual(finish(ROOM, front).table[record(p=B, q=C)], 1)
        self.assertIs(self.shows(["m", ";"], {**TABLE, record(p=B, q=C): 1}, front), True)
        self.assertIs(self.shows(["m", ";"], TABLE, front), False)
        # Within the let its own name is none.
        front = split_text("let m = {p: x.p, q: z")
        self.assertIs(self.shows(["}", ";"], TABLE, front), True)

    def test_a_give_is_the_statement_at_hand(self):
        table = finish(ROOM, []).table
        self.assertIs(self.shows(split_text("give {p: x.p, q: z};"), table, []), True)
        self.assertIs(self.shows(split_text("let m = x;"), table, []), False)
        self.assertIs(self.shows(split_text("let m = x; give {p: x.p, q: z};"), table, []), False)
        room = read_room("type a\nname x: {p: {p: a}}\ngoal a")
        table = finish(room, []).table
        self.assertIs(Finishing(split_text("give x.p.p;"), table).shows(room, []), True)
        self.assertIs(Finishing(split_text("let m = x.p;"), table).shows(room, []), False)

    def test_attributes_may_be_changed(self):
        found = finish(ROOM, self.WORDS)
        found.words = split_text("{q: y}).r.s};")
        self.assertIs(found.shows(ROOM, self.WORDS), True)
        found.words.append(";")
        self.assertIs(found.shows(ROOM, self.WORDS), False)
        found.words.pop()
        found.table[B] += 1
        self.assertIs(found.shows(ROOM, self.WORDS), False)
        found.table[B] -= 1
        self.assertIs(found.shows(ROOM, self.WORDS), True)
        self.assertIs(found.shows(ROOM, []), False)
        self.assertIs(found.shows(days(), []), False)

    def test_what_is_shown_stays_as_it_is(self):
        found = finish(ROOM, self.WORDS)
        words, table = list(found.words), dict(found.table)
        found.shows(ROOM, self.WORDS)
        self.assertEqual([found.words, found.table], [words, table])


class Objects(TestCase):
    def test_equality(self):
        told = Finishing(["x", ";"], {A: 1, ANY: 1})
        self.assertTrue(told == Finishing(("x", ";"), {ANY: 1, A: 1}))
        for other in [Finishing(["x"], {A: 1, ANY: 1}), Finishing(["x", ";"], {A: 1}),
                      Finishing(["x", ";"], {A: 2, ANY: 1}), ["x", ";"], None, 2]:
            self.assertFalse(told == other)
            self.assertTrue(told != other)
        self.assertTrue(finish(ROOM, []) == finish(ROOM, ()))

    def test_lengths(self):
        self.assertEqual([len(Finishing(["x", ";"], {})), len(Finishing((), {A: 1}))], [2, 0])

    def test_what_is_given_is_copied(self):
        words, table = ["x", ";"], {A: 1}
        told = Finishing(words, table)
        words.append("x")
        table[A] = 2
        self.assertEqual([told.words, told.table], [["x", ";"], {A: 1}])
        self.assertEqual(Finishing(("x",), {}).words, ["x"])

    def test_what_is_returned_is_new(self):
        found = finish(ROOM, ["give"])
        found.words.append("x")
        found.table[A] = 7
        self.assertFalse(found == finish(ROOM, ["give"]))


class Refusing(TestCase):
    def test_bad_words_then_dead(self):
        told = finish(ROOM, [])
        for given in [None, "give", ["give", "?"], ["x", "any"], ["x"] * 201, [3]]:
            raised(BadWords, finish, ROOM, given)
            raised(BadWords, told.shows, ROOM, given)
        for text, place in [("x", 0), ("give x;", 1), ("give {p: z", 4), ("let z", 1), ("let m = f(x", 5),
                            ("give {p: x.p, q: z}; give", 13)]:
            self.assertEqual(raised(Dead, finish, ROOM, split_text(text)).place, place, text)
            self.assertEqual(raised(Dead, told.shows, ROOM, split_text(text)).place, place, text)

    def test_where_nothing_can_be_right(self):
        room = read_room("type a\ntype b\nname x: b\ngoal a")
        self.assertEqual(raised(Dead, finish, room, []).place, 0)
        self.assertEqual(raised(Dead, Finishing([], {}).shows, room, split_text("let m = x;")).place, 0)

    def test_what_is_shown_may_be_any_evidence(self):
        self.assertEqual(raised(Dead, Finishing([";"], {}).shows, ROOM, ["x"]).place, 0)
