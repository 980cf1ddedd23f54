"""What is told of one thing at two doors is the same, in drawn rooms and at drawn beginnings."""

from random import Random
from unittest import TestCase

from tests.drawing import drawn_edit, drawn_text
from tests.plain import random_parts, random_type, room_of
from tests.test_search import larger_parts
from typingroom.checking import is_right
from typingroom.counting import ending, endings, number_of
from typingroom.edits import Edit, answers, stale
from typingroom.editors import Editor, watcher
from typingroom.helping import meant, own_types
from typingroom.holes import hole, is_filling
from typingroom.manyholes import are_fillings, holes
from typingroom.offering import Offers, broken, completions, finish, offers
from typingroom.talks import Talk

SIGNS = "= ; ( ) { } , : .".split()


def drawn_rooms(count):
    """Rooms that have right texts, each with a random source."""
    found = []
    for number in range(count):
        random = Random(number)
        parts = larger_parts(random) if number % 4 == 0 else random_parts(number, 3, 3)[0]
        if not parts["names"]:
            parts["names"]["x"] = random_type(random, parts["bases"], ["p", "q"], 3)
        room = room_of(parts)
        if broken(room, []) is None:
            found.append((random, room))
    return found


def drawn_beginning(random, room):
    """Words that are not dead."""
    words = drawn_text(random, room)
    place = broken(room, words)
    return words if place is None else words[:place]


def within_give(random, room):
    """Words that end within a give, or behind its word."""
    words = drawn_beginning(random, room)
    if "give" not in words:
        at = max([place for place, word in enumerate(words) if word == ";"], default=-1)
        words = words[:at + 1] + ["give"]
    words = words[:random.randint(words.index("give") + 1, len(words))]
    return words[:-1] if is_right(room, words) else words


def whole_text(random, room):
    """A right text."""
    words = within_give(random, room)
    return words + finish(room, words).words


class OffersAndEndings(TestCase):
    def test_the_shortest_endings_have_as_many_words_as_finish_tells(self):
        for random, room in drawn_rooms(120):
            words = within_give(random, room)
            found = finish(room, words).words
            most = min(len(found), 30)
            counts = endings(room, words, most)
            self.assertEqual([count > 0 for count in counts], [many == len(found) for many in range(1, most + 1)])
            if len(found) <= 30:
                self.assertEqual(ending(room, words, most, number_of(room, words, found)), found)

    def test_endings_make_right_texts_and_begin_with_what_is_offered(self):
        tried = 0
        for random, room in drawn_rooms(120):
            words = within_give(random, room)
            told = offers(room, words)
            self.assertIs(told.but, None)
            most = min(len(finish(room, words)) + 3, 20)
            for many, count in enumerate(endings(room, words, most), start=1):
                for number in {0, count // 2, count - 1} if count else []:
                    more = ending(room, words, many, number)
                    self.assertIs(is_right(room, words + more), True)
                    self.assertTrue(more[0] in told)
                    self.assertEqual(number_of(room, words, more), number)
                    tried += 1
        self.assertGreater(tried, 200)

    def test_an_ending_less_is_an_ending_behind_its_first_word(self):
        for random, room in drawn_rooms(80):
            words = within_give(random, room)
            most = min(len(finish(room, words)) + 2, 16)
            counts = endings(room, words, most)
            behind = [endings(room, words + [word], most - 1) for word in offers(room, words).words if word != ";"]
            if ";" not in offers(room, words):
                self.assertEqual(counts, [0] + [sum(column) for column in zip(*behind)])

    def test_completions_are_offered_words(self):
        for random, room in drawn_rooms(80):
            words = drawn_beginning(random, room)
            told = offers(room, words)
            self.assertEqual(completions(room, words, ""), [word for word in told.words if word not in SIGNS])
            self.assertIs(is_right(room, words), told == Offers([], None))


class HolesAndRightTexts(TestCase):
    def test_names_that_can_be_put_into_a_hole(self):
        counts = {True: 0, False: 0}
        for random, room in drawn_rooms(200):
            words = whole_text(random, room)
            places = name_places(room, words)
            if not places:
                continue
            place = random.choice(places)
            holed = words[:place] + ["?"] + words[place + 1:]
            front = words[:place]
            lets = [words[at + 1] for at, word in enumerate(words) if word == "let" and at < place]
            names = sorted(room.names) + lets
            for name in names:
                told = any([is_filling(room, holed, kind) for kind in own_types(room, words, name)])
                self.assertIs(is_right(room, front + [name] + words[place + 1:]), told, (words, place, name))
                counts[told] += 1
                if told:
                    self.assertTrue(name in offers(room, front))
            self.assertIs(hole(room, holed) == [], not any(
                [is_filling(room, holed, kind) for kind in hole(room, holed)]))
            self.assertEqual(holes(room, holed), [(kind,) for kind in hole(room, holed)])
        self.assertGreater(min(counts.values()), 40)

    def test_own_types_of_names_make_rows_that_go(self):
        tried = 0
        for random, room in drawn_rooms(200):
            words = whole_text(random, room)
            places = name_places(room, words)
            if not 2 <= len(places) <= 4:
                continue
            tried += 1
            holed = ["?" if place in places else word for place, word in enumerate(words)]
            rows = [()]
            for place in places:
                rows = [row + (kind,) for row in rows for kind in own_types(room, words, words[place])]
            self.assertTrue(any([are_fillings(room, holed, row) for row in rows]), words)
            for place in places:
                alone = words[:place] + ["?"] + words[place + 1:]
                self.assertNotEqual(hole(room, alone), [])
        self.assertGreater(tried, 5)


def name_places(room, words):
    """The places of the names in a give of a right text."""
    start = words.index("give")
    found = []
    for place in range(start + 1, len(words)):
        word, before, behind = words[place], words[place - 1], words[place + 1:place + 2]
        if word in SIGNS or word in room.functions and behind == ["("] or behind == [":"] or before == ".":
            continue
        found.append(place)
    return found


class CallsAtHand(TestCase):
    def test_each_call_has_a_signature_left(self):
        tried = 0
        for random, room in drawn_rooms(200):
            words = drawn_beginning(random, room)
            for function, many, numbers in meant(room, words):
                tried += 1
                self.assertEqual(list(numbers), sorted(set(numbers)))
                rows = [room.functions[function][number] for number in numbers]
                self.assertTrue(rows)
                self.assertTrue(all(many < len(row[0]) or many == 0 for row in rows))
        self.assertGreater(tried, 40)

    def test_what_is_offered_behind_an_argument(self):
        tried = 0
        for random, room in drawn_rooms(400):
            words = within_give(random, room)
            told = meant(room, words)
            if told and words[-1] in ("(", ","):
                words = words + finish(room, words).words[:1]
                told = meant(room, words)
            if not told or words[-1] in ("{", ",", "(", ":", ".") or words[-1] == told[-1][0]:
                continue
            function, many, numbers = told[-1]
            rows = [room.functions[function][number] for number in numbers]
            for sign, able in [(")", [row for row in rows if row[1] <= many + 1 <= len(row[0])]),
                               (",", [row for row in rows if many + 1 < len(row[0])])]:
                if sign in offers(room, words) and not meant_literal(words):
                    tried += 1
                    self.assertTrue(able, (words, sign))
        self.assertGreater(tried, 10)


def meant_literal(words):
    """Whether the innermost thing that is begun and not ended is a literal."""
    opened = []
    for word in words:
        if word in ("(", "{"):
            opened.append(word)
        elif word in (")", "}"):
            opened.pop()
    return opened[-1:] == ["{"]


class EditsEditorsAndTalks(TestCase):
    def test_all_tell_the_same_answers(self):
        for random, room in drawn_rooms(120):
            words = drawn_text(random, room)
            told = answers(room, words)
            editor, talk = Editor(room, words), Talk(room, words)
            alive = [found for found in told if found is not None]
            self.assertEqual(list(editor.each_offer()), alive)
            self.assertEqual([talk.answer(talk.ask(place)) for place in range(len(words) + 1)], told)
            place = broken(room, words)
            self.assertEqual(len(alive), len(words) + 1 if place is None else place + 1)
            if place is None:
                for word in told[-1].words + ["zz", "x", "k", ";"]:
                    self.assertIs(editor(word), word in told[-1])
                    self.assertIs(broken(room, words + [word]) is None, word in told[-1])

    def test_edits_by_all_doors(self):
        for random, room in drawn_rooms(120):
            words = drawn_text(random, room)
            edit = drawn_edit(random, len(words), words + ["x", ";"])
            editor, talk = Editor(room, words), Talk(room, words)
            news = watcher(editor)
            editor.edit(edit)
            talk.edit(edit)
            self.assertEqual([list(editor), list(talk)], [edit(words)] * 2)
            self.assertEqual(news(), Editor.gap(words, list(editor)))
            self.assertEqual(news()(edit(words)), edit(words))
            self.assertEqual(list(editor.edit(edit.undone(words))), words)
            self.assertEqual(list(talk.edit(edit.undone(words))), words)
            same = Edit(0, len(words), words)
            self.assertEqual(stale(room, words, same), list(range(1, len(words))))
