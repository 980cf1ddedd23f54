from random import Random
from unittest import TestCase

from tests.drawing import drawn_edit, drawn_text, own_answers
from tests.plain import random_parts, room_of
from tests.samples import BAD_WORDS, days, raised
from typingroom.crossing import Crossing
from typingroom.edits import Edit
from typingroom.errors import BadEdit, BadNumber, BadWords
from typingroom.offering import Offers, offers
from typingroom.roomtexts import read_room
from typingroom.talks import Talk
from typingroom.words import split_text

ROOM = read_room("type a\nname x: a\nname r: {p: a}\nfun f(u: a): a\ngoal a")


def moved(place, edit):
    if place is None or place <= edit.first:
        return place
    return place + edit.growth() if place >= edit.last else None


class PlainWalk:
    """Point [32], event by event."""

    def __init__(self, room, words, events):
        texts, edits, self.rows = [list(words)], [], []
        for event in events:
            if isinstance(event, Edit):
                texts.append(event(texts[-1]))
                edits.append(event)
            elif event[0] == "ask":
                self.rows.append({"own": len(edits), "place": event[1], "last": None})
            else:
                self.rows[event[1]]["last"] = len(edits)
        self.total = len(edits)
        told = [own_answers(room, text) for text in texts]
        for row in self.rows:
            row["last"] = self.total if row["last"] is None else row["last"]
            row["answer"] = told[row["own"]][row["place"]]
            place, row["places"], row["rights"] = row["place"], {}, []
            for many in range(row["own"], self.total + 1):
                row["places"][many] = place
                if place is not None and told[many][place] == row["answer"]:
                    row["rights"].append(many)
                place = moved(place, edits[many]) if many < self.total else None

    def can_come(self, row):
        return range(row["own"], row["last"] + 1)

    def always(self):
        return [number for number, row in enumerate(self.rows) if all(many in row["rights"] for many in self.can_come(row))]

    def soonest(self, number):
        row = self.rows[number]
        return next((many for many in self.can_come(row) if many not in row["rights"]), None)

    def spare(self):
        found = []
        for number, row in enumerate(self.rows):
            for other in [place for place in range(number) if place not in found]:
                before = self.rows[other]
                if (before["places"][row["own"]] == row["place"] and before["answer"] == row["answer"]
                        and before["last"] >= row["last"]):
                    found.append(number)
                    break
        return found

    def each_time(self):
        return [(many, [number for number, row in enumerate(self.rows) if many in self.can_come(row)],
                 [number for number, row in enumerate(self.rows) if many in self.can_come(row) and many in row["rights"]])
                for many in range(self.total + 1)]


def drawn_events(random, words, most=14):
    """Edits, questions and drops that fit."""
    many, events, open_ones, asked = len(words), [], [], 0
    for _ in range(random.randint(0, most)):
        shape = random.random()
        if shape < 0.4:
            edit = drawn_edit(random, many, ("x", "f", "(", ")", ";", "give", "p", "."))
            if random.random() < 0.5:
                at = random.randint(0, many)
                edit = random.choice([Edit(at, at, []), Edit(0, 0, split_text("let k = x;")), Edit(at, many, [])])
            events.append(edit)
            many += edit.growth()
        elif shape < 0.8 or not open_ones:
            events.append(("ask", random.choice([many, random.randint(0, many)])))
            open_ones.append(asked)
            asked += 1
        else:
            events.append(("drop", open_ones.pop(random.randrange(len(open_ones)))))
    return events


class AgainstAPlainWalk(TestCase):
    def test_drawn_events(self):
        counts = {"wrong": 0, "right": 0, "spare": 0}
        for number in range(150):
            random = Random(number)
            room = room_of(random_parts(number)[0])
            words = drawn_text(random, room)
            self.compare(room, words, drawn_events(random, words), counts)
        self.assertGreater(min(counts.values()), 25)

    def compare(self, room, words, events, counts):
        told = Crossing(room, words, events)
        plain = PlainWalk(room, words, events)
        self.assertEqual(len(told), len(plain.rows))
        for number, row in enumerate(plain.rows):
            self.assertEqual(told.answer(number), row["answer"])
            self.assertEqual(told.rights(number), row["rights"], (words, number))
            self.assertEqual(told.soonest(number), plain.soonest(number))
            counts["wrong" if told.soonest(number) is not None else "right"] += 1
        self.assertEqual(told.always(), plain.always())
        self.assertEqual(told.spare(), plain.spare())
        self.assertEqual(list(told.each_time()), plain.each_time())
        counts["spare"] += len(told.spare())

    def test_against_talks(self):
        for number in range(60):
            random = Random(number)
            words = drawn_text(random, ROOM)
            events = [event for event in drawn_events(random, words) if isinstance(event, Edit) or event[0] == "ask"]
            talk, told, many = Talk(ROOM, words), Crossing(ROOM, words, events), 0
            for event in events:
                if isinstance(event, Edit):
                    talk.edit(event)
                    many += 1
                else:
                    talk.ask(event[1])
                right = [asked for asked in range(len(talk)) if many in told.rights(asked)]
                self.assertEqual(list(talk.each_right()), right)
            self.assertEqual([talk.answer(asked) for asked in range(len(talk))],
                             [told.answer(asked) for asked in range(len(talk))])


class Told(TestCase):
    WORDS = split_text("give x;")

    def crossing(self, *events):
        return Crossing(ROOM, self.WORDS, list(events))

    def test_rights_go_on_behind_the_last_number(self):
        bad, good = Edit(1, 2, ["z"]), Edit(1, 2, ["x"])
        told = self.crossing(("ask", 2), bad, ("drop", 0), good, bad)
        self.assertEqual([told.rights(0), told.soonest(0), told.always(), len(told)], [[0, 2], 1, [], 1])
        self.assertEqual(list(told.each_time()), [(0, [0], [0]), (1, [0], []), (2, [], []), (3, [], [])])
        told = self.crossing(("ask", 2), ("drop", 0), bad, good, bad)
        self.assertEqual([told.rights(0), told.soonest(0), told.always()], [[0, 2], None, [0]])
        self.assertEqual(list(told.each_time()), [(0, [0], [0])] + [(many, [], []) for many in (1, 2, 3)])
        told = self.crossing(bad, ("ask", 2), good, bad)
        self.assertEqual([told.answer(0), told.rights(0), told.soonest(0)], [None, [1, 3], 2])

    def test_no_questions_and_no_events(self):
        told = self.crossing()
        self.assertEqual([len(told), told.always(), told.spare(), list(told.each_time())], [0, [], [], [(0, [], [])]])
        told = self.crossing(Edit(0, 0, []), Edit(0, 3, []))
        self.assertEqual([len(told), list(told.each_time())], [0, [(0, [], []), (1, [], []), (2, [], [])]])

    def test_places_that_are_gone(self):
        told = self.crossing(("ask", 2), Edit(1, 3, []), Edit(1, 1, ["x", ";"]))
        self.assertEqual([told.rights(0), told.soonest(0)], [[0], 1])
        told = self.crossing(("ask", 1), ("ask", 3), Edit(1, 3, []))
        self.assertEqual([told.rights(0), told.rights(1)], [[0, 1], [0]])

    def test_spare_ones(self):
        self.assertEqual(self.crossing(("ask", 2), ("ask", 2)).spare(), [1])
        self.assertEqual(self.crossing(("ask", 2), ("ask", 1), ("ask", 2), ("ask", 1)).spare(), [2, 3])
        more = Edit(0, 0, split_text("let k = x;"))
        self.assertEqual(self.crossing(("ask", 2), more, ("ask", 7)).spare(), [1])
        self.assertEqual(self.crossing(("ask", 1), more, ("ask", 6)).spare(), [])
        self.assertEqual(self.crossing(("ask", 2), more, ("ask", 2)).spare(), [])
        self.assertEqual(self.crossing(("ask", 2), ("drop", 0), ("ask", 2)).spare(), [1])
        self.assertEqual(self.crossing(("ask", 2), ("drop", 0), more, ("ask", 7)).spare(), [])
        self.assertEqual(self.crossing(("ask", 2), ("ask", 2), ("drop", 0), more).spare(), [])
        self.assertEqual(self.crossing(("ask", 2), ("ask", 2), more, ("drop", 0)).spare(), [1])
        self.assertEqual(self.crossing(("ask", 2), ("ask", 2), more, ("drop", 1)).spare(), [1])
        self.assertEqual(self.crossing(("ask", 2), more, ("ask", 7), ("drop", 0), ("drop", 1), ("ask", 7)).spare(), [1, 2])
        self.assertEqual(self.crossing(("ask", 3), Edit(2, 3, []), ("ask", 2)).spare(), [])
        self.assertEqual(self.crossing(Edit(0, 1, ["x"]), ("ask", 2), ("ask", 2), ("ask", 3)).spare(), [1])

    def test_answers_are_those_of_their_time(self):
        told = self.crossing(("ask", 1), Edit(0, 0, split_text("let k = x;")), ("ask", 6))
        self.assertEqual(told.answer(0), offers(ROOM, ["give"]))
        self.assertEqual(told.answer(1), offers(ROOM, split_text("let k = x; give")))
        self.assertIsInstance(told.answer(0), Offers)


class Errors(TestCase):
    def test_bad_words_come_first(self):
        for words in BAD_WORDS:
            for events in ([], None, [None] * 61, [("ask", -1)]):
                raised(BadWords, Crossing, ROOM, words, events)

    def test_events(self):
        for events in [None, 3, "ask", {("ask", 0): 1}, [("ask", 0)] * 61, ("ask", 0), [None], [["ask", 0]], [("ask",)],
                       [("ask", 0, 0)], [("look", 0)], [("ask", 0), ("look", 0)], ["ask"], [Edit], [3], [("ask", 4)], [("ask", -1)], [("ask", True)],
                       [("ask", None)], [("ask", "1")], [("drop", 0)], [("ask", 0), ("drop", 1)], [("ask", 0), ("drop", -1)],
                       [("ask", 0), ("drop", False)], [("ask", 0), ("drop", 0), ("drop", 0)], [("drop", 0), ("ask", 0)],
                       [("ask", 0), Edit(0, 0, []), ("drop", 0), Edit(0, 0, []), ("drop", 0)]]:
            raised(BadNumber, Crossing, ROOM, ["give", "x", ";"], events)
        told = Crossing(ROOM, ["give", "x", ";"], (("ask", 0), Edit(0, 0, []), ("ask", 3)) * 20)
        self.assertEqual(len(told), 40)

    def test_errors_in_the_order_of_the_events(self):
        words = ["give", "x", ";"]
        many = Edit(0, 0, ["x"] * 199)
        raised(BadEdit, Crossing, ROOM, words, [Edit(0, 4, []), ("ask", 99)])
        raised(BadNumber, Crossing, ROOM, words, [("ask", 99), Edit(0, 4, [])])
        raised(BadWords, Crossing, ROOM, words, [many, Edit(0, 999, []), ("ask", 999)])
        raised(BadNumber, Crossing, ROOM, words, [many, ("ask", 203), Edit(0, 999, [])])
        raised(BadEdit, Crossing, ROOM, words, [Edit(0, 3, []), Edit(0, 1, []), None])
        raised(BadNumber, Crossing, ROOM, words, [Edit(0, 3, []), ("ask", 1)])
        raised(BadNumber, Crossing, ROOM, words, [Edit(3, 3, ["x"]), ("ask", 5)])
        self.assertEqual(len(Crossing(ROOM, words, [Edit(3, 3, ["x"]), ("ask", 4)])), 1)

    def test_numbers(self):
        told = Crossing(ROOM, ["give"], [("ask", 0), ("ask", 1)])
        for number in (2, -1, None, True, False, "0", (0,), 99):
            for door in (told.answer, told.rights, told.soonest):
                raised(BadNumber, door, number)
        for door in (Crossing(ROOM, [], []).answer, Crossing(ROOM, [], []).rights, Crossing(ROOM, [], []).soonest):
            raised(BadNumber, door, 0)

    def test_nothing_is_changed_or_kept(self):
        room, words, events = days(), ["give"], [("ask", 1), Edit(0, 0, [])]
        told = Crossing(room, words, events)
        words.append("x")
        events.clear()
        room.names.clear()
        self.assertEqual([len(told), told.answer(0), told.rights(0)], [1, offers(days(), ["give"]), [0, 1]])
        told.answer(0).words.clear()
        told.rights(0).clear()
        told.always().clear()
        list(told.each_time())[0][1].clear()
        self.assertEqual([told.answer(0), told.rights(0), told.always()], [offers(days(), ["give"]), [0, 1], [0]])
        self.assertEqual(list(told.each_time()), [(0, [0], [0]), (1, [0], [0])])
