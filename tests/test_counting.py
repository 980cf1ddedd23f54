from itertools import product
from random import Random
from unittest import TestCase

from tests.drawing import drawn_text
from tests.plain import is_right, random_parts, right_texts, room_of
from tests.samples import BAD_WORDS, days, raised
from typingroom.counting import ending, endings, number_of, state_in_give
from typingroom.errors import BadNumber, BadWords, Dead, NotWhole
from typingroom.lengths import Lengths, mask_of
from typingroom.offering import broken, offers
from typingroom.roomtexts import read_room
from typingroom.words import split_text

MOST = 12
ROOM = read_room("type a below b\ntype b\nname x: a\nname y: b\nname r: {p: a, q: {p: b}}\n"
                 "fun f(u: a): b\nfun f(u: b, v: b =): {p: b}\nfun g(u: {p: a, q: b}): a\ngoal b\n")
NOTHING = read_room("type a\ngoal a")


def told_endings(room, words, many):
    """All endings with so many words, by their numbers."""
    return [ending(room, words, many, number) for number in range(endings(room, words, many)[-1])]


class Telling(TestCase):
    def check(self, text, *told):
        """All endings with at most as many words as the longest one that is told."""
        words = split_text(text)
        rows = sorted(split_text(row) for row in told)
        most = max(map(len, rows))
        for many in range(1, most + 1):
            able = [row for row in rows if len(row) == many]
            self.assertEqual(endings(ROOM, words, most)[many - 1], len(able), (text, many))
            self.assertEqual(told_endings(ROOM, words, many), able, (text, many))
            self.assertEqual([number_of(ROOM, words, row) for row in able], list(range(len(able))))

    def test_told_ones(self):
        self.check("give", "x;", "y;", "r.p;", "r.q.p;", "f(x);")
        self.check("give x", ";")
        self.check("give r", ".p;", ".q.p;")
        self.check("give r.", "p;", "q.p;")
        self.check("give r.q", ".p;")
        self.check("give f", "(x);", "(x).p;", "(y).p;", "(r.p);", "(f(x)).p;", "(x,x).p;", "(x,y).p;", "(y,x).p;",
                   "(y,y).p;", "(r.p).p;")
        self.check("give f(x", ");", ").p;", ",x).p;", ",y).p;", ",r.p).p;", ",f(x)).p;", ",r.q.p).p;")
        self.check("give f(x)", ";", ".p;")
        self.check("give f(y)", ".p;")
        self.check("give g({", "p:x,q:x});", "p:x,q:y});", "q:x,p:x});", "q:y,p:x});")
        self.check("give g({q", ":x,p:x});", ":y,p:x});")
        self.check("give g({q:", "x,p:x});", "y,p:x});", "r.p,p:x});", "x,p:r.p});", "y,p:r.p});")
        self.check("give g({q:x", ",p:x});", ",p:r.p});")
        self.check("give g({q:x,", "p:x});", "p:r.p});")
        self.check("give g({q:x,p:x}", ");")
        self.check("let k = x; give f(", "k);", "x);", "k).p;", "x).p;", "y).p;", "r.p);")
        self.check("let k = {p: x, q: y}; give", "x;", "y;", "k.p;", "k.q;", "r.p;", "g(k);", "f(x);", "r.q.p;")

    def test_the_room_of_the_document(self):
        self.assertEqual(endings(days(), split_text("give meet ("), 12), [0, 0, 0, 0, 2, 0, 2, 0, 2, 1, 2, 6])

    def test_ascending_as_lists(self):
        rows = told_endings(ROOM, ["give"], 20)
        self.assertGreater(len(rows), 50)
        self.assertEqual(rows, sorted(rows))

    def test_what_is_given_stays_and_what_is_returned_is_new(self):
        words, more = ["give", "r", "."], ["q", ".", "p", ";"]
        endings(ROOM, words, 4).append(7)
        ending(ROOM, words, 4, 0).append("x")
        self.assertEqual(number_of(ROOM, words, more), 0)
        self.assertEqual([words, more], [["give", "r", "."], ["q", ".", "p", ";"]])
        self.assertEqual([endings(ROOM, words, 4), ending(ROOM, words, 4, 0)], [[0, 1, 0, 1], more])
        self.assertEqual(number_of(ROOM, tuple(words), tuple(more)), 0)


class AgainstSearches(TestCase):
    def test_all_right_texts_that_are_short(self):
        counts = [self.compare(number) for number in range(150)]
        self.assertGreater(sum(counts), 1500)

    def compare(self, number):
        parts, fields = random_parts(number, 3, 2)
        room = room_of(parts)
        texts = right_texts(parts, fields, ["k"], MOST)
        if len(texts) > 4000:
            return 0
        fronts = {tuple(words[:end]) for words in texts for end in range(words.index("give") + 1, len(words))}
        count = 0
        for front in Random(number).sample(sorted(fronts), min(len(fronts), 12)):
            words = list(front)
            most = MOST - len(words)
            found = [sorted(text[len(words):] for text in texts if text[:len(words)] == words and
                            len(text) == len(words) + many) for many in range(1, most + 1)]
            self.assertEqual(endings(room, words, most), [len(rows) for rows in found], (parts, words))
            for rows in found:
                for place in sorted({0, 1, len(rows) // 2, len(rows) - 1} & set(range(len(rows)))):
                    self.assertEqual(ending(room, words, len(rows[0]), place), rows[place])
                    self.assertEqual(number_of(room, words, rows[place]), place)
                count += len(rows)
        return count

    def test_all_lists_of_a_few_words(self):
        for number, text, most in [(3, "give f (", 4), (5, "give", 4), (8, "give x", 4), (21, "give f", 4)]:
            parts, fields = random_parts(number, 2, 1)
            parts["names"].setdefault("x", ("record", (("p", parts["goal"]),)))
            parts["functions"].setdefault("f", [([("u", parts["names"]["x"])], 0, parts["goal"])])
            room, words = room_of(parts), split_text(text)
            if broken(room, words) is not None:
                continue
            letters = ["x", "f", "p", "=", ";", "(", ")", "{", "}", ",", ":", ".", "let", "give"] + list(parts["names"])[1:]
            for many in range(1, most + 1):
                rows = [list(row) for row in product(sorted(letters), repeat=many) if row[-1] == ";"]
                able = [row for row in rows if is_right(parts, words + row)]
                self.assertEqual(told_endings(room, words, many), able)
                for row in rows:
                    if row not in able and Random(str(row)).random() < 0.02:
                        self.assertIs(number_of(room, words, row), None)


class Undoing(TestCase):
    def test_each_number(self):
        for text in ["give", "give f(", "give f(x", "give g({", "let k = f(x); give f("]:
            words = split_text(text)
            for many, count in enumerate(endings(ROOM, words, 9), start=1):
                rows = [ending(ROOM, words, many, number) for number in range(count)]
                self.assertEqual([number_of(ROOM, words, row) for row in rows], list(range(count)))
                self.assertEqual(rows, sorted(rows))
                self.assertEqual([len(row) for row in rows], [many] * count)
                raised(BadNumber, ending, ROOM, words, many, count)

    def test_far_ones(self):
        told = endings(days(), split_text("give meet ("), 30)
        self.assertEqual(len(told), 30)
        for many in [18, 24, 29, 30]:
            for number in {0, told[many - 1] // 3, told[many - 1] - 1}:
                row = ending(days(), split_text("give meet ("), many, number)
                self.assertEqual(number_of(days(), split_text("give meet ("), row), number)

    def test_where_only_some_numbers_of_words_can_be(self):
        # Expressions have 1, 6, 11 and so on words, very many of them; endings of 30 words have 29, and there is none.
        names = "".join(f"name x{letter}: a\n" for letter in "abcdefghijklmnopqrst")
        room = read_room("type a\n" + names + "fun f(u: a, v: a): a\ngoal a")
        told = endings(room, ["give"], 30)
        self.assertEqual([many for many, count in enumerate(told, start=1) if count], [2, 7, 12, 17, 22, 27])
        self.assertEqual(told[1:12:5], [20, 20 ** 2, 2 * 20 ** 3])
        self.assertEqual(told[26], 42 * 20 ** 6)
        raised(BadNumber, ending, room, ["give"], 30, 0)
        self.assertEqual(len(ending(room, ["give"], 27, 42 * 20 ** 6 - 1)), 27)

    def test_what_is_counted_with_is_just_what_can_be(self):
        # Counting goes only along words that lead to an ending; these masks tell which ones do.
        tried = 0
        for number in range(120):
            parts, _ = random_parts(number, 3, 3)
            room = room_of(parts)
            if broken(room, ["give"]) is not None:
                continue
            words = drawn_text(Random(number), room)
            place = broken(room, words)
            words = words if place is None else words[:place]
            if "give" in words and not is_right(parts, words):
                tried += 1
                reader, state = state_in_give(room, words)
                mask = mask_of(Lengths(reader.lore, state.lets, 12), state)
                counts = endings(room, words, 12)
                self.assertEqual([mask >> many & 1 for many in range(1, 13)], [int(count > 0) for count in counts])
        self.assertGreater(tried, 20)

    def test_endings_that_are_longer_than_thirty_words(self):
        room = read_room("type a\ntype b\nname x: a\nfun f(u: a): b\nfun f(u: b): b\nname z: b\ngoal b")
        for word, number in [("x", 0), ("z", 1)]:
            row = ["f", "("] * 40 + [word] + [")"] * 40 + [";"]
            self.assertEqual(number_of(room, ["give"], row), number)
        self.assertIs(number_of(room, ["give"], ["f", "("] * 40 + ["x"] + [")"] * 39 + [";"]), None)
        self.assertIs(number_of(room, ["give"], ["f"] * 200), None)


class NoEndings(TestCase):
    def test_numbers_of_what_is_none(self):
        for text, more in [("give", ""), ("give", "x"), ("give", "x; give x;"), ("give", ";"), ("give", "r;"),
                           ("give", "f(y);"), ("give", "f(r);"), ("give x", "x;"), ("give x", ";;"), ("give f(", "x)"),
                           ("give f(", "x, x);"), ("give", "give x;"), ("give", "zz;"), ("give g({p", ": x});"),
                           ("give g({p: x,", "p: x});"), ("give", "x; let k = x;")]:
            self.assertIs(number_of(ROOM, split_text(text), split_text(more)), None, (text, more))

    def test_no_words_at_most(self):
        self.assertEqual(endings(ROOM, ["give"], 0), [])
        self.assertEqual(endings(ROOM, ["give"], 1), [0])
        self.assertEqual(endings(ROOM, ["give", "x"], 1), [1])
        self.assertEqual(endings(ROOM, ["give", "x"], 30), [1] + [0] * 29)


class Refusing(TestCase):
    def works(self, room, words):
        """Each door, with good numbers, and with bad ones."""
        return [(endings, room, words, 3), (ending, room, words, 2, 0), (number_of, room, words, ["x", ";"]),
                (endings, room, words, 31), (ending, room, words, 0, -1), (number_of, room, words, [])]

    def test_bad_words_come_first(self):
        for room in [ROOM, NOTHING]:
            for words in BAD_WORDS:
                for work in self.works(room, words):
                    raised(BadWords, *work)
                for other in [["give"], ["x"], [], ["let"]]:
                    raised(BadWords, number_of, room, other, words)

    def test_dead_words(self):
        for room, text, place in [(ROOM, "give ;", 1), (ROOM, "x", 0), (ROOM, "let x", 1), (ROOM, "give x; give", 3),
                                  (NOTHING, "", 0), (NOTHING, "give", 0), (ROOM, "give f(y, y,", 6)]:
            for work in self.works(room, split_text(text)):
                self.assertEqual(raised(Dead, *work).place, place, text)

    def test_where_no_give_is_at_hand(self):
        for text in ["", "give x;", "let", "let k", "let k =", "let k = x", "let k = f(", "let k = {p: x",
                     "let k = x;", "let k = x; let", "let k = x; give k;"]:
            for work in self.works(ROOM, split_text(text)):
                raised(NotWhole, *work)

    def test_numbers(self):
        for most in [-1, 31, 100, True, False, None, "3", [3]]:
            raised(BadNumber, endings, ROOM, ["give"], most)
        for many in [-1, 0, 31, 100, True, None, "3"]:
            for number in [0, -1, True]:
                raised(BadNumber, ending, ROOM, ["give"], many, number)
        for number in [-1, 2, 100, True, False, None, "0"]:
            raised(BadNumber, ending, ROOM, ["give"], 2, number)
        raised(BadNumber, ending, ROOM, ["give"], 1, 0)
        self.assertEqual(len(endings(ROOM, ["give", "x"], 30)), 30)
        self.assertEqual(ending(ROOM, ["give", "x"], 1, 0), [";"])
        raised(BadNumber, ending, ROOM, ["give", "x"], 30, 0)
        self.assertEqual([ending(ROOM, ["give"], 2, number) for number in [0, 1]], [["x", ";"], ["y", ";"]])

    def test_what_can_stand_begins_the_endings(self):
        for text in ["give", "give f(", "give f(x", "give g({p: x", "give r.", "give r.q"]:
            words = split_text(text)
            first = sorted({row[0] for many in range(1, 15) for row in told_endings(ROOM, words, many)})
            self.assertEqual(first, offers(ROOM, words).words)
