from unittest import TestCase

from tests.samples import raised
from typingroom.errors import BadText, BadWords
from typingroom.words import join_words, split_text

SIGNS = ["=", ";", "(", ")", "{", "}", ",", ":", "."]


class Splitting(TestCase):
    def place(self, text):
        error = raised(BadText, split_text, text)
        return [error.line, error.column]

    def test_words_and_signs(self):
        self.assertEqual(split_text("let k = meet ( now ) ;\ngive k . id ;\n"),
                         ["let", "k", "=", "meet", "(", "now", ")", ";", "give", "k", ".", "id", ";"])
        self.assertEqual(split_text("give f({a:x,b:{}}).p;"),
                         ["give", "f", "(", "{", "a", ":", "x", ",", "b", ":", "{", "}", "}", ")", ".", "p", ";"])
        self.assertEqual(split_text("=;(){},:."), SIGNS)
        self.assertEqual(split_text("ab cd\nef  gh\n\n  ij"), ["ab", "cd", "ef", "gh", "ij"])
        self.assertEqual(split_text("letx givey xlet"), ["letx", "givey", "xlet"])
        self.assertEqual(split_text("abcdefghij"), ["abcdefghij"])
        self.assertEqual([split_text(""), split_text(" \n\n ")], [[], []])

    def test_the_first_that_is_no_word_or_sign(self):
        self.assertEqual(self.place("?"), [1, 1])
        self.assertEqual(self.place("give x;\n  any ?"), [2, 3])
        self.assertEqual(self.place("give abcdefghijk"), [1, 6])
        self.assertEqual(self.place("abC"), [1, 3])
        self.assertEqual(self.place("a\tb"), [1, 2])
        self.assertEqual(self.place("a1"), [1, 2])
        self.assertEqual(self.place("a\r\nb"), [1, 2])
        self.assertEqual(self.place("x\n\n\n   #"), [4, 4])
        self.assertEqual(self.place("\u00e9"), [1, 1])
        self.assertEqual(self.place("x_y"), [1, 2])
        self.assertEqual(self.place("goal any"), [1, 6])

    def test_at_most_200(self):
        self.assertEqual(split_text("a " * 200), ["a"] * 200)
        self.assertEqual(self.place("a " * 201), [1, 401])
        self.assertEqual(self.place("a\n" * 200 + "  ;"), [201, 3])
        self.assertEqual(self.place(";" * 201), [1, 201])
        self.assertEqual(self.place(";" * 150 + "?" + ";" * 100), [1, 151])
        self.assertEqual(self.place(";" * 200 + "? x"), [1, 201])

    def test_what_is_no_string(self):
        for thing in [None, 3, True, ["give"], b"give", ("give",)]:
            self.assertEqual(self.place(thing), [0, 0])


class Joining(TestCase):
    def test_blanks_and_line_feeds(self):
        self.assertEqual(join_words(["give", "x", ";"]), "give x ;\n")
        self.assertEqual(join_words(["let", "k", "=", "x", ";", "give", "k"]), "let k = x ;\ngive k\n")
        self.assertEqual(join_words(("a", ";", ";", "b", ";")), "a ;\n;\nb ;\n")
        self.assertEqual([join_words([]), join_words(["a"]), join_words([";"])], ["", "a\n", ";\n"])
        self.assertEqual(join_words(SIGNS), "= ;\n( ) { } , : .\n")

    def test_what_is_joined_is_split_again(self):
        words = ["let", "give", "abcdefghij"] + SIGNS
        self.assertEqual(split_text(join_words(words)), words)

    def test_at_most_200(self):
        self.assertEqual(join_words(["a"] * 200), "a " * 199 + "a\n")
        raised(BadWords, join_words, ["a"] * 201)
        raised(BadWords, join_words, ("a",) * 201)

    def test_what_is_no_list_of_words_and_signs(self):
        for thing in [None, "ab", "", {"a": 1}, 3, ["any"], ["a b"], [""], ["?"], ["abcdefghijk"], ["A"], [1], [None],
                      [["a"]], ["a", "==", "b"], ["a", True], [b"a"], ["a", "\n"]]:
            raised(BadWords, join_words, thing)

    def test_the_words_stay_as_they_are(self):
        words = ["give", "x"]
        join_words(words)
        self.assertEqual(words, ["give", "x"])
