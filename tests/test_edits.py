from random import Random
from unittest import TestCase

from tests.drawing import drawn_edit, drawn_text, drawn_words, own_answers
from tests.plain import random_parts, room_of
from tests.samples import BAD_WORDS, days, raised
from typingroom.edits import Edit, answers, carried, shrunk, stale
from typingroom.errors import BadEdit, BadWords
from typingroom.offering import Offers
from typingroom.roomtexts import read_room
from typingroom.words import split_text

SIGNS = ["=", ";", "(", ")", "{", "}", ",", ":", ".", "let", "give"]


class Making(TestCase):
    def test_parts(self):
        given = ["x", ".", "p"]
        edit = Edit(2, 5, given)
        given.append("q")
        self.assertEqual([edit.first, edit.last, edit.words], [2, 5, ("x", ".", "p")])
        self.assertEqual(Edit(0, 0, []).words, ())
        self.assertEqual(Edit(3, 3, ("give", "let")).words, ("give", "let"))
        self.assertEqual(Edit(0, 1, SIGNS).words, tuple(SIGNS))
        self.assertEqual(Edit(0, 0, ["abcdefghij"]).words, ("abcdefghij",))

    def test_places_that_are_not_right(self):
        for first, last in [(-1, 0), (-1, -1), (-2, 3), (0, -1), (1, 0), (7, 6), (True, 1), (0, True), (False, 0),
                            (0, False), ("0", 1), (0, None), (0, "1"), ([0], 1), (None, None)]:
            raised(BadEdit, Edit, first, last, [])
        for first, last in [(0, 0), (0, 1), (6, 6), (200, 1000)]:
            self.assertEqual(Edit(first, last, []).last, last)

    def test_words_that_are_none(self):
        for words in [None, "x", 3, {"x": 1}, ["?"], ["any"], ["x", ""], ["abcdefghijk"], ["X"], ["x y"], [1], [None],
                      [["x"]], ["-"], ("x", "any")]:
            raised(BadEdit, Edit, 0, 0, words)

    def test_equal_by_parts(self):
        self.assertTrue(Edit(1, 2, ["x"]) == Edit(1, 2, ("x",)))
        self.assertFalse(Edit(1, 2, ["x"]) != Edit(1, 2, ("x",)))
        for other in [Edit(0, 2, ["x"]), Edit(1, 3, ["x"]), Edit(1, 2, ["y"]), Edit(1, 2, []), Edit(1, 2, ["x", "x"]),
                      (1, 2, ("x",)), None]:
            self.assertFalse(Edit(1, 2, ["x"]) == other)
            self.assertTrue(Edit(1, 2, ["x"]) != other)

    def test_length_and_truth(self):
        for edit, length, truth in [(Edit(0, 0, []), 0, False), (Edit(9, 9, ()), 0, False), (Edit(0, 1, []), 0, True),
                                    (Edit(4, 4, ["x"]), 1, True), (Edit(2, 5, ["x", "y"]), 2, True)]:
            self.assertEqual([len(edit), bool(edit)], [length, truth])

    def test_growth(self):
        for edit, more in [(Edit(0, 0, []), 0), (Edit(0, 4, []), -4), (Edit(2, 3, ["x"]), 0),
                           (Edit(2, 3, ["x", ".", "p"]), 2), (Edit(5, 5, ["x"]), 1)]:
            self.assertEqual(edit.growth(), more)


class Doing(TestCase):
    def test_calls(self):
        words = ["a", "b", "c", "d"]
        for edit, behind in [(Edit(0, 0, []), "abcd"), (Edit(1, 3, ["x"]), "axd"), (Edit(0, 0, ["x", "y"]), "xyabcd"),
                             (Edit(4, 4, ["x"]), "abcdx"), (Edit(0, 4, []), ""), (Edit(3, 4, ["x", "y"]), "abcxy"),
                             (Edit(2, 2, ["x"]), "abxcd")]:
            self.assertEqual(edit(words), list(behind))
            self.assertEqual(edit(tuple(words)), list(behind))
        self.assertEqual(words, ["a", "b", "c", "d"])
        self.assertIsNot(Edit(0, 0, [])(words), words)
        self.assertEqual(Edit(0, 0, ["x"])([]), ["x"])

    def test_what_calls_refuse(self):
        for work in [Edit(1, 2, ["x"]), Edit(1, 2, ["x"]).undone]:
            for words in BAD_WORDS:
                raised(BadWords, work, words)
            raised(BadEdit, work, ["a"])
            raised(BadEdit, work, [])
            work(["a", "b"])
        raised(BadEdit, Edit(3, 3, []), ["a", "b"])
        raised(BadEdit, Edit(0, 201, []), ["a"] * 200)
        raised(BadWords, Edit(0, 201, []), ["a"] * 201)
        raised(BadWords, Edit(5, 5, []), ["?"])
        self.assertEqual(Edit(0, 200, [])(["a"] * 200), [])

    def test_undone(self):
        self.assertEqual(Edit(1, 3, ["x", "y", "z"]).undone(["a", "b", "c"]), Edit(1, 4, ["b", "c"]))
        self.assertEqual(Edit(1, 1, ["x"]).undone(["a", "b"]), Edit(1, 2, []))
        self.assertEqual(Edit(0, 2, []).undone(("a", "b")), Edit(0, 0, ["a", "b"]))
        random = Random(1)
        for _ in range(200):
            words = drawn_words(random, 8)
            edit = drawn_edit(random, len(words))
            back = edit.undone(words)
            self.assertEqual(back(edit(words)), words)
            self.assertEqual(back.growth(), -edit.growth())
            self.assertEqual(back.undone(edit(words)), edit)

    def test_plus(self):
        edit = Edit(2, 3, ["x"])
        self.assertEqual(edit + 4, Edit(6, 7, ["x"]))
        self.assertEqual(edit + 0, edit)
        self.assertIsNot(edit + 0, edit)
        self.assertEqual(edit + -2, Edit(0, 1, ["x"]))
        self.assertEqual(edit, Edit(2, 3, ["x"]))
        for many in [-3, -4, -100]:
            raised(BadEdit, lambda: edit + many)
        raised(BadEdit, lambda: Edit(0, 0, []) + -1)
        for many in [True, False, None, "1"]:
            raised(BadEdit, lambda: edit + many)


class Carrying(TestCase):
    def check(self, one, other, told):
        found = carried(one, other)
        if told is None:
            self.assertIs(found, None)
        else:
            self.assertEqual(found, told)
            self.assertIsNot(found, one)

    def test_behind(self):
        self.check(Edit(2, 2, ["x"]), Edit(1, 2, ["a", "b", "c"]), Edit(4, 4, ["x"]))
        self.check(Edit(5, 7, ["x"]), Edit(1, 4, []), Edit(2, 4, ["x"]))
        self.check(Edit(4, 7, ["x"]), Edit(1, 4, ["a"]), Edit(2, 5, ["x"]))
        self.check(Edit(4, 7, ["x"]), Edit(4, 4, ["a"]), Edit(5, 8, ["x"]))

    def test_in_front(self):
        self.check(Edit(0, 1, ["x", "y"]), Edit(2, 3, ["a", "b"]), Edit(0, 1, ["x", "y"]))
        self.check(Edit(0, 2, ["x"]), Edit(2, 3, []), Edit(0, 2, ["x"]))
        self.check(Edit(2, 2, ["x"]), Edit(2, 3, ["a", "b"]), Edit(2, 2, ["x"]))
        self.check(Edit(1, 2, ["x"]), Edit(2, 2, ["a"]), Edit(1, 2, ["x"]))

    def test_both_empty_at_one_place(self):
        self.check(Edit(3, 3, ["x"]), Edit(3, 3, ["a", "b"]), Edit(5, 5, ["x"]))
        self.check(Edit(0, 0, []), Edit(0, 0, ["a"]), Edit(1, 1, []))
        self.check(Edit(3, 3, ["x"]), Edit(3, 3, []), Edit(3, 3, ["x"]))

    def test_overlapping(self):
        for one, other in [((1, 3), (2, 4)), ((2, 4), (1, 3)), ((1, 4), (2, 3)), ((2, 3), (1, 4)), ((1, 2), (1, 2)),
                           ((2, 2), (1, 3)), ((1, 3), (2, 2)), ((1, 3), (1, 2)), ((1, 2), (1, 3)), ((1, 3), (2, 3))]:
            self.check(Edit(*one, ["x"]), Edit(*other, ["a"]), None)

    def test_both_orders_do_the_same_to_words(self):
        random = Random(2)
        met = 0
        for _ in range(600):
            words = drawn_words(random, 6)
            one, other = drawn_edit(random, len(words)), drawn_edit(random, len(words))
            there, back = carried(one, other), carried(other, one)
            self.assertIs(there is None, back is None)
            if there is None:
                self.assertTrue(one.first < other.last and other.first < one.last)
            elif (one.first, one.last) != (other.first, other.first):
                met += 1
                self.assertEqual(there(other(words)), back(one(words)))
        self.assertGreater(met, 200)


class Shrinking(TestCase):
    def test_told_ones(self):
        for one, other, first, last, words in [
                ("abc", "abc", 3, 3, ""), ("", "", 0, 0, ""), ("abc", "ab", 2, 3, ""), ("abc", "bc", 0, 1, ""),
                ("ab", "abc", 2, 2, "c"), ("bc", "abc", 0, 0, "a"), ("abc", "axc", 1, 2, "x"), ("abc", "", 0, 3, ""),
                ("", "abc", 0, 0, "abc"), ("aaa", "aa", 2, 3, ""), ("aa", "aaaa", 2, 2, "aa"), ("abab", "ab", 2, 4, ""),
                ("abcab", "ab", 2, 5, ""), ("ab", "abcab", 2, 2, "cab"), ("aba", "abba", 2, 2, "b"),
                ("abc", "xyz", 0, 3, "xyz"), ("abcd", "axyd", 1, 3, "xy"), ("xabx", "xbax", 1, 3, "ba")]:
            self.assertEqual(shrunk(list(one), list(other)), Edit(first, last, list(words)), (one, other))

    def test_against_all_edits(self):
        random = Random(3)
        for _ in range(300):
            one, other = drawn_words(random, 6, "ab"), drawn_words(random, 6, "ab")
            found = shrunk(tuple(one), other)
            self.assertEqual(found(one), other)
            able = [(first, len(one) - last) for first in range(len(one) + 1) for last in range(first, len(one) + 1)
                    if first <= len(other) - (len(one) - last) and one[:first] == other[:first]
                    and one[last:] == other[len(other) - (len(one) - last):]]
            self.assertEqual((found.first, len(one) - found.last), max(able))

    def test_bad_words(self):
        for words in BAD_WORDS:
            raised(BadWords, shrunk, words, [])
            raised(BadWords, shrunk, [], words)


class Answers(TestCase):
    def test_in_the_room_of_the_document(self):
        told = answers(days(), split_text("give plan.at;"))
        self.assertEqual(told, [Offers(["give", "let"], None), Offers(["meet", "now", "plan"], None),
                                Offers(["."], None), Offers(["at", "who"], None), Offers([";"], None),
                                Offers([], None)])
        self.assertEqual(answers(days(), []), [Offers(["give", "let"], None)])
        self.assertEqual(answers(days(), ["let"]), [Offers(["give", "let"], None),
                                                    Offers([], ["meet", "now", "plan"])])

    def test_dead_words(self):
        told = answers(days(), split_text("give now . ; x"))
        self.assertEqual([found is None for found in told], [False, False, False, True, True, True])
        self.assertEqual(answers(read_room("type a\ngoal a"), ["give", "x"]), [None, None, None])
        self.assertEqual(answers(read_room("type a\ngoal a"), []), [None])

    def test_each_is_what_offers_tells(self):
        random = Random(4)
        for number in range(60):
            parts, _ = random_parts(number)
            room = room_of(parts)
            words = drawn_text(random, room)
            self.assertEqual(answers(room, words), own_answers(room, words))

    def test_what_is_returned_is_new(self):
        words = ["give", "now"]
        told = answers(days(), words)
        told[0].words.append("x")
        told.append(None)
        self.assertEqual(words, ["give", "now"])
        self.assertEqual(answers(days(), words)[0].words, ["give", "let"])
        self.assertEqual(len(answers(days(), tuple(words))), 3)

    def test_bad_words(self):
        for words in BAD_WORDS:
            raised(BadWords, answers, days(), words)
        self.assertEqual(len(answers(days(), ["give"] * 200)), 201)


class Stale(TestCase):
    def check(self, text, edit, told):
        self.assertEqual(stale(days(), split_text(text), edit), told, text)

    def test_told_ones(self):
        self.check("give now;", Edit(1, 2, ["plan", ".", "at"]), [2, 3])
        self.check("give now;", Edit(1, 2, ["plan"]), [2, 3])
        self.check("give now;", Edit(1, 2, ["now"]), [])
        self.check("give now;", Edit(1, 1, []), [])
        self.check("give now;", Edit(3, 3, []), [])
        self.check("give now;", Edit(0, 3, ["give", "now", ";"]), [1, 2])
        self.check("give now;", Edit(0, 0, split_text("let k = now;")), [1, 2, 3, 4, 6])
        self.check("let k = now; give plan.at;", Edit(0, 5, []), [1])
        self.check("give plan.who;", Edit(3, 4, ["at"]), [4, 5])
        self.check("give plan.who;", Edit(2, 4, []), [])
        self.check("give now;", Edit(3, 3, [";"]), [4])

    def test_words_that_are_dead(self):
        self.check("x now;", Edit(0, 1, ["give"]), [1, 2, 3])
        self.check("give now;", Edit(0, 1, ["x"]), [1, 2, 3])
        self.check("x now;", Edit(0, 1, ["y"]), [])
        self.check("x now;", Edit(0, 2, ["y", "z"]), [1])
        self.check("give now.;", Edit(2, 3, []), [3])
        self.check("give now", Edit(2, 2, ["."]), [3])
        self.check("give now.x.y", Edit(4, 5, ["x", "y"]), [5])

    def test_against_an_own_comparison(self):
        random = Random(5)
        kinds = {"between": 0, "same": 0, "other": 0}
        for number in range(200):
            parts, _ = random_parts(number)
            room = room_of(parts)
            words = drawn_text(random, room)
            edit = drawn_edit(random, len(words), words + ["x", "f", "(", ")", ".", "p", ";", "k"])
            old, new = own_answers(room, words), own_answers(room, edit(words))
            wrong = []
            for place in range(len(new)):
                before = place if place <= edit.first else place - len(edit.words) + edit.last - edit.first
                is_between = edit.first < place < edit.first + len(edit.words)
                kind = "between" if is_between else ("same" if old[before] == new[place] else "other")
                kinds[kind] += 1
                if kind != "same":
                    wrong.append(place)
            self.assertEqual(stale(room, words, edit), wrong, (parts, words, edit.first, edit.last, edit.words))
        self.assertGreater(min(kinds.values()), 100)

    def test_what_it_refuses(self):
        for words in BAD_WORDS:
            raised(BadWords, stale, days(), words, Edit(500, 500, []))
        raised(BadEdit, stale, days(), ["give"], Edit(2, 2, []))
        raised(BadEdit, stale, days(), ["x"], Edit(0, 2, []))
        self.assertEqual(stale(days(), ("give",), Edit(1, 1, [])), [])
