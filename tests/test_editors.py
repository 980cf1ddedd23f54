from random import Random
from unittest import TestCase

from tests.drawing import drawn_edit, drawn_text, own_answers
from tests.plain import random_parts, room_of
from tests.samples import BAD_WORDS, base, days, raised
from typingroom.editors import Editor, watcher
from typingroom.edits import Edit, shrunk
from typingroom.errors import BadEdit, BadWords, Dead
from typingroom.offering import Offers, broken, offers
from typingroom.roomtexts import read_room
from typingroom.words import join_words, split_text

NOTHING = read_room("type a\ngoal a")
BAD_SINGLE = ["?", "any", "", "A", 3, None, ["give"], "abcdefghijk"]


class Holding(TestCase):
    def test_words(self):
        editor = Editor(days(), ["give", "now", ";"])
        self.assertEqual([list(editor), len(editor), "now" in editor, "plan" in editor, None in editor],
                         [["give", "now", ";"], 3, True, False, False])
        self.assertEqual([word for word in Editor(days())], [])
        self.assertEqual(len(Editor(days())), 0)
        self.assertEqual(list(Editor(days(), ("x", "x"))), ["x", "x"])

    def test_words_that_are_none(self):
        for words in BAD_WORDS:
            for room in [days(), NOTHING]:
                raised(BadWords, Editor, room, words)
                raised(BadWords, lambda: Editor(room, words, strict=True))
        self.assertEqual(len(Editor(days(), ["x"] * 200)), 200)

    def test_what_is_given_is_copied(self):
        room, words = days(), ["give", "now"]
        editor, other = Editor(room, words), Editor.careful(room, *words)
        room.names["zz"] = base("day")
        room.names.pop("now")
        room.functions["meet"].clear()
        room.above["time"].clear()
        room.goal = base("time")
        words.append("plan")
        self.assertEqual([list(editor), list(other)], [["give", "now"]] * 2)
        self.assertEqual([editor(";"), list(other.type_in(";"))], [True, ["give", "now", ";"]])
        self.assertEqual(list(Editor.each_offer(Editor(days(), ["give"])))[1].words, ["meet", "now", "plan"])
        self.assertEqual(list(editor.each_offer())[1].words, ["meet", "now", "plan"])
        self.assertFalse(editor.edit(Edit(1, 2, ["meet", "("]))("zz"))
        self.assertTrue(editor("now"))

    def test_words_that_are_typed_while_they_are_gone_through(self):
        editor = Editor(days(), ["give", "now"])
        told = [editor.type_in(word) and word for word in editor]
        self.assertEqual([told, list(editor)], [["give", "now"], ["give", "now", "give", "now"]])

    def test_class_values(self):
        self.assertEqual([Editor.PLACES, Editor(days()).PLACES], [3, 3])
        self.assertEqual(Editor.gap(["a", "b"], ("a", "c", "b")), Edit(1, 1, ["c"]))
        self.assertEqual(Editor(days()).gap([], ["x"]), Edit(0, 0, ["x"]))
        for words in BAD_WORDS:
            raised(BadWords, Editor.gap, words, [])
            raised(BadWords, Editor.gap, [], words)

    def test_what_can_stand_next(self):
        editor = Editor(days(), ["give", "meet", "("])
        for word, told in [("now", True), ("plan", True), ("{", True), (")", False), ("zz", False), ("?", False),
                           (None, False), ("give", False)]:
            self.assertIs(editor(word), told, word)
        editor = Editor(days(), ["let"])
        for word, told in [("zz", True), ("now", False), ("any", False), ("=", False)]:
            self.assertIs(editor(word), told, word)
        self.assertEqual(raised(Dead, Editor(days(), ["give", "now", ".", "x", ";"]), ";").place, 2)
        self.assertEqual(raised(Dead, Editor(NOTHING), "give").place, 0)
        self.assertIs(Editor(days(), ["give", "now", ";"])(";"), False)


class Typing(TestCase):
    def test_words_are_put_behind(self):
        editor = Editor(days())
        self.assertIs(editor.type_in("give"), editor)
        self.assertIs(editor.type_in(), editor)
        self.assertEqual(list(editor.type_in("now", ".", "x").type_in(";")), ["give", "now", ".", "x", ";"])

    def test_one_that_is_none_undoes_all(self):
        for strict in [False, True]:
            editor = Editor(days(), ["give"], strict=strict)
            for word in BAD_SINGLE:
                for words in [[word], ["now", word], ["now", ";", word], [word, "now"], ["now", word, ";"]]:
                    raised(BadWords, editor.type_in, *words)
                    self.assertEqual(list(editor), ["give"])
            self.assertEqual(list(editor.type_in("now")), ["give", "now"])

    def test_more_than_200_words(self):
        editor = Editor(days(), ["give"] * 198)
        raised(BadWords, editor.type_in, "x", "x", "x")
        self.assertEqual(len(editor), 198)
        self.assertEqual(len(editor.type_in("x", "x")), 200)
        raised(BadWords, editor.type_in, "x")
        raised(BadWords, editor.edit, Edit(0, 0, ["x"]))
        raised(BadWords, editor.edit, Edit(0, 1, []), Edit(5, 5, ["x", "x"]))
        raised(BadWords, editor.edit, Edit(5, 5, ["x", "x"]), Edit(0, 2, []))
        self.assertEqual(list(editor), ["give"] * 198 + ["x", "x"])
        self.assertEqual(len(editor.edit(Edit(0, 2, []), Edit(5, 5, ["x", "x"]))), 200)

    def test_edits(self):
        editor = Editor(days(), ["give", "now", ";"])
        self.assertIs(editor.edit(), editor)
        self.assertIs(editor.edit(Edit(1, 2, ["plan", ".", "at"])), editor)
        self.assertEqual(list(editor), ["give", "plan", ".", "at", ";"])
        self.assertEqual(list(editor.edit(Edit(0, 5, []), Edit(0, 0, ["x", "y"]), Edit(1, 1, ["z"]))), ["x", "z", "y"])

    def test_an_edit_that_does_not_fit_undoes_all(self):
        editor = Editor(days(), ["give", "now", ";"])
        raised(BadEdit, editor.edit, Edit(4, 4, []))
        raised(BadEdit, editor.edit, Edit(0, 0, ["x"]), Edit(4, 5, []))
        raised(BadEdit, editor.edit, Edit(0, 3, []), Edit(0, 1, []), Edit(0, 0, ["x"]))
        self.assertEqual(list(editor), ["give", "now", ";"])
        self.assertEqual(list(editor.edit(Edit(0, 0, ["x"]), Edit(4, 4, ["x"]))), ["x", "give", "now", ";", "x"])

    def test_against_plain_lists(self):
        random = Random(1)
        for _ in range(100):
            words = [random.choice("abc") for _ in range(random.randint(0, 5))]
            editor = Editor(days(), words)
            for _ in range(4):
                if random.random() < 0.5:
                    more = [random.choice("abc") for _ in range(random.randint(0, 3))]
                    words = words + more
                    editor.type_in(*more)
                else:
                    edit = drawn_edit(random, len(words))
                    words = edit(words)
                    editor.edit(edit)
                self.assertEqual([list(editor), len(editor)], [words, len(words)])


class Strict(TestCase):
    def test_when_made(self):
        self.assertIs(Editor(days()).strict, False)
        self.assertIs(Editor(days(), ["x"]).strict, False)
        self.assertIs(Editor(days(), ["give"], strict=True).strict, True)
        self.assertEqual(raised(Dead, lambda: Editor(days(), ["give", "x", "y"], strict=True)).place, 1)
        self.assertEqual(raised(Dead, lambda: Editor(NOTHING, strict=True)).place, 0)

    def test_careful_ones(self):
        editor = Editor.careful(days(), "give", "now")
        self.assertEqual([list(editor), editor.strict, editor.__class__], [["give", "now"], True, Editor])
        self.assertEqual(list(Editor.careful(days())), [])
        self.assertEqual(raised(Dead, Editor.careful, days(), "give", "now", "now").place, 2)
        for word in BAD_SINGLE:
            raised(BadWords, Editor.careful, days(), "x", word)

    def test_dead_words_are_refused_and_all_is_undone(self):
        editor = Editor.careful(days(), "give")
        for words, place in [(["x"], 1), (["now", "."], 2), (["plan", ".", "x", "y"], 3), (["now", ";", ";"], 3)]:
            self.assertEqual(raised(Dead, editor.type_in, *words).place, place)
            self.assertEqual(list(editor), ["give"])
        self.assertEqual(list(editor.type_in("plan", ".", "at")), ["give", "plan", ".", "at"])

    def test_edits_that_make_words_dead(self):
        editor = Editor.careful(days(), "give", "now", ";")
        self.assertEqual(raised(Dead, editor.edit, Edit(1, 2, ["plan"])).place, 2)
        self.assertEqual(raised(Dead, editor.edit, Edit(2, 3, []), Edit(0, 0, ["x"]), Edit(0, 1, [])).place, 0)
        # Behind each edit, not only behind the last one.
        self.assertEqual(raised(Dead, editor.edit, Edit(1, 2, ["x"]), Edit(1, 2, ["now"])).place, 1)
        self.assertEqual(list(editor), ["give", "now", ";"])
        self.assertEqual(list(editor.edit(Edit(2, 3, []), Edit(1, 2, ["plan", "."]))), ["give", "plan", "."])

    def test_errors_that_are_documented_first(self):
        editor = Editor.careful(days(), "give")
        raised(BadWords, editor.type_in, "x", "?")
        raised(BadWords, editor.type_in, "?", "x")
        raised(BadEdit, editor.edit, Edit(1, 1, ["x"]), Edit(3, 3, []))
        raised(BadWords, editor.edit, Edit(1, 1, ["x"] * 200), Edit(300, 300, []))
        raised(Dead, editor.edit, Edit(1, 1, ["x"] * 199))
        self.assertEqual(list(editor), ["give"])

    def test_set_and_unset_for_what_comes(self):
        editor = Editor(days(), ["give"])
        editor.be_strict()
        self.assertIs(editor.strict, True)
        raised(Dead, editor.type_in, "x")
        editor.be_strict(False)
        self.assertIs(editor.strict, False)
        self.assertEqual(list(editor.type_in("x")), ["give", "x"])
        editor.be_strict(strict=True)
        self.assertEqual([editor.strict, list(editor)], [True, ["give", "x"]])
        self.assertIs(editor.type_in(), editor)
        self.assertIs(editor.edit(), editor)
        self.assertEqual(raised(Dead, editor.type_in, ";").place, 1)
        self.assertEqual(raised(Dead, editor.edit, Edit(2, 2, [])).place, 1)
        self.assertEqual(list(editor.edit(Edit(1, 2, ["now"]))), ["give", "now"])

    def test_what_is_not_refused_is_what_can_stand_next(self):
        random = Random(2)
        for number in range(80):
            parts, _ = random_parts(number)
            room = room_of(parts)
            if broken(room, []) is not None:
                raised(Dead, Editor.careful, room)
                continue
            editor = Editor.careful(room)
            for word in drawn_text(random, room):
                if editor(word):
                    editor.type_in(word)
                else:
                    self.assertEqual(raised(Dead, editor.type_in, word).place, len(editor))
            self.assertIs(broken(room, list(editor)), None)


class Trials(TestCase):
    def setUp(self):
        self.editor = Editor(days(), ["give"])

    def words(self):
        return " ".join(self.editor)

    def test_what_is_returned_and_undone(self):
        given = []

        def work(editor):
            given.append(editor)
            return " ".join(editor.type_in("now", ";"))

        self.assertEqual([self.editor.trial(work), self.words()], ["give now ;", "give"])
        self.assertEqual([len(given), given[0] is self.editor], [1, True])
        self.assertIs(self.editor.trial(lambda editor: None), None)

    def test_errors_go_on_to_the_caller(self):
        for error in [KeyError, ValueError, ZeroDivisionError, KeyboardInterrupt]:
            made = error("so")

            def work(editor):
                editor.type_in("now")
                raise made

            with self.assertRaises(error) as caught:
                self.editor.trial(work)
            self.assertIs(caught.exception, made)
            self.assertEqual(self.words(), "give")
        raised(BadWords, self.editor.trial, lambda editor: editor.type_in("now").type_in("?"))
        raised(BadEdit, self.editor.trial, lambda editor: editor.edit(Edit(0, 1, [])).edit(Edit(9, 9, [])))
        self.assertEqual(self.words(), "give")

    def test_keep(self):
        def work(editor):
            editor.type_in("plan")
            editor.keep()
            editor.type_in(".", "at")
            editor.keep()
            editor.type_in(";")

        self.editor.trial(work)
        self.assertEqual(self.words(), "give plan . at")

    def test_keep_and_an_error(self):
        def work(editor):
            editor.type_in("plan").keep()
            editor.type_in(".")
            raise KeyError("so")

        raised(KeyError, self.editor.trial, work)
        self.assertEqual(self.words(), "give plan")

    def test_keep_outside_of_trials(self):
        self.editor.keep()
        self.editor.type_in("now")
        self.editor.keep()
        self.editor.trial(lambda editor: editor.type_in(";"))
        self.editor.keep()
        self.assertEqual(self.words(), "give now")
        self.editor.trial(lambda editor: editor.edit(Edit(0, 2, [])))
        self.assertEqual(self.words(), "give now")

    def within(self, *kept):
        """A trial in a trial, with keep where it is told; the words behind the inner one and behind the outer one."""
        seen = []

        def inner(editor):
            editor.type_in("c")
            if "inner" in kept:
                editor.keep()
            editor.type_in("d")
            if "error" in kept:
                raise KeyError("so")

        def outer(editor):
            editor.type_in("a")
            if "early" in kept:
                editor.keep()
            editor.type_in("b")
            try:
                editor.trial(inner)
            except KeyError:
                pass
            seen.append(" ".join(editor))
            if "late" in kept:
                editor.keep()
            editor.type_in("e")

        self.editor = Editor(days(), ["x"])
        self.editor.trial(outer)
        return seen + [self.words()]

    def test_trials_within_trials(self):
        for error in [(), ("error",)]:
            self.assertEqual(self.within(*error), ["x a b", "x"])
            self.assertEqual(self.within("inner", *error), ["x a b c", "x"])
            self.assertEqual(self.within("early", *error), ["x a b", "x a"])
            self.assertEqual(self.within("late", *error), ["x a b", "x a b"])
            self.assertEqual(self.within("early", "inner", *error), ["x a b c", "x a"])
            self.assertEqual(self.within("inner", "late", *error), ["x a b c", "x a b c"])
            self.assertEqual(self.within("early", "inner", "late", *error), ["x a b c", "x a b c"])

    def test_one_trial_behind_another_one(self):
        self.editor.trial(lambda editor: editor.type_in("now").keep())
        self.editor.trial(lambda editor: editor.type_in("x"))
        self.editor.keep()
        self.assertEqual(self.words(), "give now")

    def test_a_strict_one(self):
        editor = Editor.careful(days(), "give")
        self.assertEqual(raised(Dead, editor.trial, lambda told: told.type_in("now").type_in("x")).place, 2)
        self.assertEqual(list(editor), ["give"])
        editor.trial(lambda told: told.be_strict(False))
        self.assertIs(editor.strict, False)


class Texts(TestCase):
    def test_without_numbers(self):
        for words in [[], ["give"], split_text("let k = now; give k;"), split_text("; ; give"), ["x"] * 200]:
            self.assertEqual(Editor(days(), words).text(), join_words(words))
            self.assertEqual(Editor(days(), words).text(numbers=False), join_words(words))

    def test_with_numbers(self):
        for words, text in [
                ("", ""), ("give", "  0  give\n"), ("give now;", "  0  give now ;\n"),
                ("let k = now; give k;", "  0  let k = now ;\n  5  give k ;\n"),
                (";; x", "  0  ;\n  1  ;\n  2  x\n"), (";", "  0  ;\n")]:
            self.assertEqual(Editor(days(), split_text(words)).text(numbers=True), text)

    def test_places_of_one_two_and_three_digits(self):
        words = split_text("let k = now;") * 39 + ["give", "k"]
        told = Editor(days(), words).text(numbers=True).split("\n")
        self.assertEqual(told[:3], ["  0  let k = now ;", "  5  let k = now ;", " 10  let k = now ;"])
        self.assertEqual(told[19:22], [" 95  let k = now ;", "100  let k = now ;", "105  let k = now ;"])
        self.assertEqual(told[38:], ["190  let k = now ;", "195  give k", ""])


class EachOffer(TestCase):
    def test_as_long_as_words_are_not_dead(self):
        for text, many in [("", 1), ("give now;", 4), ("give x now", 2), ("x", 1), ("give now . ;", 3),
                           ("give now; ;", 4)]:
            words = split_text(text)
            told = list(Editor(days(), words).each_offer())
            self.assertEqual(told, [offers(days(), words[:end]) for end in range(many)], text)
        self.assertEqual(list(Editor(NOTHING, ["x"]).each_offer()), [])

    def test_what_can_stand_is_new_each_time(self):
        editor = Editor(days(), ["give"])
        for found in editor.each_offer():
            found.words.append("zz")
        self.assertEqual([found.words for found in editor.each_offer()], [["give", "let"], ["meet", "now", "plan"]])
        self.assertEqual(list(editor.type_in("now").each_offer())[2], Offers([";"], None))

    def test_in_drawn_rooms(self):
        random = Random(3)
        for number in range(60):
            parts, _ = random_parts(number)
            room = room_of(parts)
            words = drawn_text(random, room)
            told = [found for found in own_answers(room, words) if found is not None]
            self.assertEqual(list(Editor(room, words).each_offer()), told)


class Watching(TestCase):
    def test_since_the_last_call(self):
        editor = Editor(days(), ["give"])
        news = watcher(editor)
        self.assertEqual(news(), Edit(1, 1, []))
        editor.type_in("plan", ".").type_in("at")
        self.assertEqual(news(), Edit(1, 1, ["plan", ".", "at"]))
        self.assertEqual([news(), bool(news())], [Edit(4, 4, []), False])
        editor.edit(Edit(1, 4, ["now"]), Edit(2, 2, [";"]))
        self.assertEqual(news(), shrunk(["give", "plan", ".", "at"], ["give", "now", ";"]))
        editor.trial(lambda told: told.edit(Edit(0, 3, [])))
        self.assertFalse(news())

    def test_two_watchers(self):
        editor = Editor(days())
        one, other = watcher(editor), watcher(editor)
        editor.type_in("a")
        self.assertEqual(one(), Edit(0, 0, ["a"]))
        editor.type_in("b")
        third = watcher(editor)
        self.assertEqual([one(), other(), third()], [Edit(1, 1, ["b"]), Edit(0, 0, ["a", "b"]), Edit(2, 2, [])])

    def test_in_a_trial(self):
        editor = Editor(days(), ["a"])
        news = watcher(editor)
        self.assertEqual(editor.trial(lambda told: told.type_in("b") and news()), Edit(1, 1, ["b"]))
        self.assertEqual(news(), Edit(1, 2, []))

    def test_they_lead_from_words_to_words(self):
        random = Random(4)
        editor = Editor(days())
        news, words = watcher(editor), []
        for _ in range(100):
            if random.random() < 0.6:
                editor.edit(drawn_edit(random, len(editor)))
            if random.random() < 0.5:
                words = news()(words)
                self.assertEqual(words, list(editor))
