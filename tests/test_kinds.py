from unittest import TestCase

from tests.samples import base, nested, record
from typingroom.kinds import is_type, type_text


class Types(TestCase):
    def test_base_types_are_words(self):
        for word in ["a", "z", "day", "abcdefghij", "anyone", "lets", "type", "goal"]:
            self.assertIs(is_type(base(word)), True, word)

    def test_what_is_no_word_is_no_base_type(self):
        for word in ["", "abcdefghijk", "any", "give", "let", "Day", "d1", "d_", "a b", "\u00e9", "a\n", "?", None, 3,
                     True, ("a",), ["a"], b"a"]:
            self.assertIs(is_type(base(word)), False, repr(word))

    def test_records_have_ascending_fields_each_once(self):
        day = base("day")
        self.assertIs(is_type(("record", ())), True)
        self.assertIs(is_type(("record", (("a", day),))), True)
        self.assertIs(is_type(("record", (("a", day), ("b", ("record", ())), ("c", day)))), True)
        self.assertIs(is_type(("record", (("b", day), ("a", day)))), False)
        self.assertIs(is_type(("record", (("a", day), ("c", day), ("b", day)))), False)
        self.assertIs(is_type(("record", (("a", day), ("a", day)))), False)
        self.assertIs(is_type(("record", (("any", day),))), False)
        self.assertIs(is_type(("record", (("abcdefghijk", day),))), False)
        self.assertIs(is_type(("record", (("a", ("any",)),))), False)

    def test_all_parts_are_tuples(self):
        day = base("day")
        for thing in [["base", "day"], ["record", ()], ("record", []), ("record", [("a", day)]),
                      ("record", (["a", day],)), ("record", (("a", ["base", "day"]),)), ("record", {"a": day})]:
            self.assertIs(is_type(thing), False, repr(thing))

    def test_other_values_are_none(self):
        day = base("day")
        for thing in [("any",), (), ("base",), ("base", "a", "b"), ("record",), ("record", (), ()), ("list", "a"), ("list", ()),
                      ("any", ()), ("base", ()), (["record"], ()),
                      "base", "ab", None, 1, True, {}, ("record", "ab"), ("record", (("a",),)),
                      ("record", (("a", day, day),)), ("record", ("ab",)), ("record", day), (day, day)]:
            self.assertIs(is_type(thing), False, repr(thing))

    def test_nesting_of_8_and_no_more(self):
        self.assertIs(is_type(nested(8)), True)
        self.assertIs(is_type(nested(9)), False)
        self.assertIs(is_type(nested(2000)), False)
        empty = ("record", ())
        for _ in range(7):
            empty = record(f=empty)
        self.assertIs(is_type(empty), True)
        self.assertIs(is_type(record(f=empty)), False)
        self.assertIs(is_type(record(a=base("a"), b=nested(8))), False)

    def test_texts(self):
        self.assertEqual(type_text(base("day")), "day")
        self.assertEqual(type_text(("any",)), "any")
        self.assertEqual(type_text(("record", ())), "{}")
        self.assertEqual(type_text(record(at=base("day"), who=record(name=base("day")))), "{at: day, who: {name: day}}")
        self.assertEqual(type_text(record(a=("record", ()), b=base("c"))), "{a: {}, b: c}")
