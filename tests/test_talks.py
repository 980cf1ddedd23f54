from random import Random
from unittest import TestCase

from tests.drawing import drawn_edit, drawn_text, own_answers
from tests.plain import random_parts, room_of
from tests.samples import BAD_WORDS, base, days, raised
from typingroom.edits import Edit, answers, stale
from typingroom.errors import BadEdit, BadNumber, BadWords
from typingroom.offering import Offers
from typingroom.roomtexts import read_room
from typingroom.talks import Talk
from typingroom.words import split_text

NO_NUMBERS = [-1, True, False, None, "0", 1.0, [0]]


class Words(TestCase):
    def test_edits_are_done_one_behind_the_other(self):
        talk = Talk(days(), ("give", "now"))
        self.assertEqual([list(talk), len(talk)], [["give", "now"], 0])
        self.assertIs(talk.edit(Edit(2, 2, [";"]), Edit(1, 2, ["plan", ".", "at"])), talk)
        self.assertEqual(list(talk), ["give", "plan", ".", "at", ";"])
        self.assertIs(talk.edit(), talk)
        self.assertEqual([word for word in Talk(days())], [])

    def test_words_that_are_none(self):
        for words in BAD_WORDS:
            raised(BadWords, Talk, days(), words)
        self.assertEqual(len(list(Talk(days(), ["x"] * 200))), 200)

    def test_an_edit_that_does_not_fit_lets_those_ahead_stay_done(self):
        talk = Talk(days(), ["give", "now"])
        number = talk.ask()
        raised(BadEdit, talk.edit, Edit(0, 0, ["x"]), Edit(0, 1, ["y", "z"]), Edit(5, 5, []), Edit(0, 2, []))
        self.assertEqual([list(talk), talk.place(number)], [["y", "z", "give", "now"], 4])
        raised(BadEdit, talk.edit, Edit(5, 5, []))
        self.assertEqual([list(talk), talk.place(number)], [["y", "z", "give", "now"], 4])

    def test_what_is_given_is_copied(self):
        room, words = days(), ["give"]
        talk = Talk(room, words)
        room.names["zz"] = base("day")
        room.functions["meet"].clear()
        room.goal = base("time")
        words.append("now")
        self.assertEqual(list(talk), ["give"])
        self.assertEqual(talk.answer(talk.ask()).words, ["meet", "now", "plan"])
        self.assertEqual(list(talk.each_right()), [0])
        self.assertIs(talk.is_right(0), True)


class Asking(TestCase):
    def test_numbers_and_answers(self):
        talk = Talk(days(), split_text("give plan.who"))
        self.assertEqual([talk.ask(), talk.ask(0), talk.ask(3), talk.ask(4), talk.ask(3), talk.ask(place=1)],
                         [0, 1, 2, 3, 4, 5])
        self.assertEqual(len(talk), 6)
        self.assertEqual([talk.answer(number).words for number in range(6)],
                         [["."], ["give", "let"], ["at", "who"], ["."], ["at", "who"], ["meet", "now", "plan"]])
        self.assertEqual([talk.place(number) for number in range(6)], [4, 0, 3, 4, 3, 1])
        self.assertEqual(talk.ask(None), 6)
        self.assertEqual(Talk(days()).ask(), 0)

    def test_answers_of_the_time_when_it_was_asked(self):
        talk = Talk(days(), ["give"])
        talk.ask()
        talk.edit(Edit(0, 1, ["let"]))
        talk.ask()
        talk.edit(Edit(0, 1, ["x"]))
        talk.ask()
        self.assertEqual([talk.answer(0), talk.answer(1), talk.answer(2)],
                         [Offers(["meet", "now", "plan"], None), Offers([], ["meet", "now", "plan"]), None])
        self.assertEqual(talk.answer(0).words, ["meet", "now", "plan"])

    def test_what_is_returned_is_new(self):
        talk = Talk(days(), ["let"])
        talk.ask()
        talk.answer(0).words.append("zz")
        talk.answer(0).but.append("zz")
        self.assertEqual(talk.answer(0), Offers([], ["meet", "now", "plan"]))
        self.assertIs(talk.is_right(0), True)

    def test_places_that_there_are_not(self):
        talk = Talk(days(), ["give", "now"])
        for place in [-1, 3, 200, True, False, "0", 1.0, [0]]:
            raised(BadNumber, talk.ask, place)
        self.assertEqual(len(talk), 0)
        self.assertEqual([talk.ask(0), talk.ask(2)], [0, 1])
        talk.edit(Edit(0, 2, []))
        raised(BadNumber, talk.ask, 1)
        self.assertEqual(talk.ask(0), 2)

    def test_questions_that_there_are_not(self):
        talk = Talk(days(), ["give", "now"])
        for work in [talk.answer, talk.place, talk.is_right]:
            for number in [0] + NO_NUMBERS:
                raised(BadNumber, work, number)
        talk.ask()
        talk.ask()
        for work in [talk.answer, talk.place, talk.is_right]:
            for number in [2, 100] + NO_NUMBERS:
                raised(BadNumber, work, number)
        self.assertEqual([talk.place(0), talk.place(1)], [2, 2])


class Places(TestCase):
    def check(self, place, told, *edits):
        talk = Talk(days(), list("abcdefgh"))
        talk.ask(place)
        talk.edit(*edits)
        self.assertEqual(talk.place(0), told, (place, told))
        self.assertIs(talk.is_right(0), told is not None)

    def test_edits_in_front(self):
        self.check(5, 7, Edit(1, 2, ["x", "y", "z"]))
        self.check(5, 3, Edit(0, 2, []))
        self.check(5, 6, Edit(0, 0, ["x"]))

    def test_edits_at_the_place(self):
        self.check(5, 5, Edit(5, 5, ["x", "y"]))
        self.check(5, 5, Edit(5, 8, []))
        self.check(5, 5, Edit(5, 8, ["x"]))
        self.check(5, 3, Edit(3, 5, []))
        self.check(5, 6, Edit(3, 5, ["x", "y", "z"]))
        self.check(8, 9, Edit(0, 8, ["x"] * 9))
        self.check(0, 0, Edit(0, 0, ["x"]))

    def test_edits_around(self):
        self.check(5, None, Edit(4, 6, ["x", "y"]))
        self.check(5, None, Edit(0, 8, ["a", "b", "c", "d", "e", "f", "g", "h"]))
        self.check(5, None, Edit(4, 8, []))

    def test_edits_behind(self):
        self.check(5, 5, Edit(6, 8, []))
        self.check(0, 0, Edit(0, 8, ["x"]))

    def test_several_edits(self):
        self.check(5, 6, Edit(0, 0, ["x", "y"]), Edit(8, 10, []), Edit(1, 2, []))
        self.check(5, 4, Edit(2, 5, ["x"]), Edit(2, 2, ["y"]), Edit(4, 6, []))
        self.check(5, 3, Edit(2, 5, ["x"]), Edit(3, 3, ["y"]))
        self.check(5, None, Edit(2, 6, []), Edit(2, 2, ["c", "d", "e", "f"]))
        self.check(5, None, Edit(4, 6, []), Edit(0, 0, ["x"]), Edit(0, 1, []))

    def test_against_an_own_walk(self):
        random = Random(1)
        counts = {True: 0, False: 0}
        for number in range(150):
            parts, _ = random_parts(number)
            room = room_of(parts)
            words = drawn_text(random, room)
            talk = Talk(room, words)
            walks = []
            for _ in range(6):
                for _ in range(random.randint(0, 2)):
                    place = random.randint(0, len(words))
                    self.assertEqual(talk.ask(place), len(walks))
                    walks.append([own_answers(room, words)[place], place])
                if random.random() < 0.8:
                    edit = drawn_edit(random, len(words), words + ["x", "f", "(", ")", ".", ";"])
                    words = edit(words)
                    talk.edit(edit)
                    walks = [[told, walked(place, edit)] for told, place in walks]
            now = own_answers(room, words)
            rights = [place is not None and now[place] == told for told, place in walks]
            counts[True] += rights.count(True)
            counts[False] += rights.count(False)
            self.assertEqual([list(talk), len(talk)], [words, len(walks)])
            self.assertEqual([[talk.answer(at), talk.place(at)] for at in range(len(walks))], walks)
            self.assertEqual([talk.is_right(at) for at in range(len(walks))], rights)
            self.assertEqual(list(talk.each_right()), [at for at, right in enumerate(rights) if right])
        self.assertGreater(min(counts.values()), 100)


def walked(place, edit):
    """Where a place is behind an edit, None if it is gone."""
    if place is None or edit.first < place < edit.last:
        return None
    return place if place <= edit.first else place - (edit.last - edit.first) + len(edit.words)


class Rights(TestCase):
    def test_what_comes_to_be_wrong_and_right_again(self):
        talk = Talk(days(), split_text("give plan.at;"))
        for place in range(6):
            talk.ask(place)
        self.assertEqual(list(talk.each_right()), [0, 1, 2, 3, 4, 5])
        talk.edit(Edit(3, 4, ["who"]))
        self.assertEqual(list(talk.each_right()), [0, 1, 2, 3])
        self.assertEqual([talk.is_right(number) for number in range(6)], [True, True, True, True, False, False])
        talk.edit(Edit(3, 4, ["at"]))
        self.assertEqual(list(talk.each_right()), [0, 1, 2, 3, 4, 5])
        talk.edit(Edit(2, 4, []), Edit(2, 2, [".", "at"]))
        self.assertEqual(list(talk.each_right()), [0, 1, 2, 5])
        self.assertEqual([talk.place(number) for number in range(6)], [0, 1, 2, None, 2, 5])
        self.assertEqual(list(Talk(days()).each_right()), [])

    def test_answers_behind_dead_words(self):
        talk = Talk(days(), ["x", "y"])
        talk.ask(1)
        talk.ask(2)
        talk.edit(Edit(0, 0, ["z"]))
        self.assertEqual([list(talk.each_right()), talk.place(0), talk.answer(0)], [[0, 1], 2, None])
        talk.edit(Edit(0, 3, ["give", "now"]))
        self.assertEqual([list(talk.each_right()), talk.place(0), talk.place(1)], [[], None, 2])
        self.assertIs(talk.is_right(1), False)
        talk = Talk(read_room("type a\ngoal a"))
        talk.ask()
        self.assertEqual([talk.answer(0), talk.is_right(0), list(talk.each_right())], [None, True, [0]])

    def test_what_is_stale_is_what_is_not_right(self):
        random = Random(2)
        for number in range(100):
            parts, _ = random_parts(number)
            room = room_of(parts)
            words = drawn_text(random, room)
            talk = Talk(room, words)
            self.assertEqual([talk.answer(talk.ask(place)) for place in range(len(words) + 1)], answers(room, words))
            edit = drawn_edit(random, len(words), words + ["x", "f", "(", ")", ".", ";"])
            talk.edit(edit)
            gone = stale(room, words, edit)
            for at in range(len(words) + 1):
                place = talk.place(at)
                # Where words are taken out and none put in, the place behind them comes to be the one in front.
                if place is not None and not (place == edit.first and at > edit.first):
                    self.assertIs(talk.is_right(at), place not in gone)
