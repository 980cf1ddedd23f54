from unittest import TestCase

from tests.samples import base, nested, raised, record
from typingroom.errors import BadRoom, BadType
from typingroom.rooms import Room

LETTERS = "abcdefghijklmnopqrstuvwxyz"
A = base("a")
B = base("b")


def room(**parts):
    told = dict(bases=["a", "b"], order=[], names={}, functions={}, goal=A)
    told.update(parts)
    return Room(told["bases"], told["order"], told["names"], told["functions"], told["goal"])


def with_signature(parameters, needed, result=A):
    return room(functions={"f": [(parameters, needed, result)]})


class Conditions(TestCase):
    def refused(self, **parts):
        raised(BadRoom, lambda: room(**parts))

    def test_base_types(self):
        self.assertTrue(room(bases=["a"]).is_below(A, A))
        self.assertEqual(room(bases=list(LETTERS[:12])), room(bases=list(LETTERS[:12])[::-1]))
        for bases in [[], list(LETTERS[:13]), ["a", "b", "a"], ["a", "any"], ["a", "abcdefghijk"], ["a", 1], ["a", ""],
                      ["a", ["b"]], "ab", {"a": 1}, None, ["b"]]:
            self.refused(bases=bases)

    def test_the_order(self):
        room(order=[("a", "b")])
        room(order=[("a", "b"), ("a", "b")])
        for order in [[("a", "a")], [("a", "b"), ("b", "a")], [("a", "c")], [("c", "a")], [("a",)], [("a", "b", "b")],
                      [["a", "b"]], "ab", [None], None, {("a", "b"): 1}, [(["a"], "b")]]:
            self.refused(order=order)
        self.refused(bases=["a", "b", "c", "d"], order=[("a", "b"), ("b", "c"), ("c", "d"), ("d", "b")])

    def test_names(self):
        twenty = {"n" + letter: A for letter in LETTERS[:20]}
        self.assertEqual(room(names=twenty).names, twenty)
        self.refused(names={"n" + letter: A for letter in LETTERS[:21]})
        for names in [{"any": A}, {"": A}, {"abcdefghijk": A}, {1: A}, {"x": ("any",)}, {"x": base("c")}, {"x": "a"},
                      {"x": record(p=base("c"))}, {"x": nested(9)}, [("x", A)], None, {"x": ["base", "a"]}]:
            self.refused(names=names)
        self.assertEqual(room(names={"a": nested(8)}).names, {"a": nested(8)})

    def test_functions(self):
        row = ([], 0, A)
        self.assertIn("ft", room(functions={"f" + letter: [row] for letter in LETTERS[:20]}))
        self.refused(functions={"f" + letter: [row] for letter in LETTERS[:21]})
        for functions in [{"let": [row]}, {"abcdefghijk": [row]}, {3: [row]}, [("f", [row])], None]:
            self.refused(functions=functions)
        self.refused(names={"f": A}, functions={"f": [row]})
        room(names={"x": A}, functions={"f": [row], "a": [row]})

    def test_signatures(self):
        row = ([], 0, A)
        room(functions={"f": [row]})
        room(functions={"f": [row] * 6})
        for rows in [[], [row] * 7, {0: row}, None, "f", [None], [[[], 0, A]], [([], 0)], [([], 0, A, A)], [row, None],
                     [([], 0, base("c"))], [([], 0, ("any",))], [([], 0, None)], row]:
            self.refused(functions={"f": rows})

    def test_parameters(self):
        six = [(letter, A) for letter in "uvwxyz"]
        with_signature(six, 6)
        with_signature(tuple(six), 0)
        for parameters in [six + [("t", A)], [("u", A), ("u", B)], [("any", A)], [("u", base("c"))], [("u", ("any",))],
                           [["u", A]], [("u",)], [("u", A, A)], [(1, A)], {"u": A}, None, "uv", [None],
                           [("u", nested(9))]]:
            raised(BadRoom, with_signature, parameters, 0)

    def test_numbers_of_needed_parameters(self):
        two = [("u", A), ("v", B)]
        for needed in [0, 1, 2]:
            with_signature(two, needed)
        for needed in [3, -1, True, False, None, "1", 1.0, [1]]:
            raised(BadRoom, with_signature, two, needed)
        raised(BadRoom, with_signature, [], False)
        raised(BadRoom, with_signature, [("u", A)], True)

    def test_the_goal(self):
        self.assertEqual(room(goal=record(p=A)).goal, record(p=A))
        for goal in [("any",), base("c"), record(p=base("c")), None, "a", ["base", "a"], nested(9)]:
            self.refused(goal=goal)


class Copies(TestCase):
    def test_what_was_given_may_be_changed(self):
        bases, order, names = ["a", "b"], [("a", "b")], {"x": A}
        parameters = [("u", A)]
        signatures = [(parameters, 1, B)]
        functions = {"f": signatures}
        told = Room(bases, order, names, functions, A)
        same = Room(("a", "b"), (("a", "b"),), {"x": A}, {"f": (((("u", A),), 1, B),)}, A)
        bases.append("c")
        order.append(("b", "a"))
        names["y"] = B
        parameters.append(("v", B))
        signatures.append(([], 0, A))
        functions["g"] = [([], 0, A)]
        self.assertEqual(told, same)
        self.assertEqual(told.names, {"x": A})
        self.assertFalse("y" in told or "g" in told)
        self.assertTrue(told.is_below(A, B) and not told.is_below(B, A))

    def test_what_is_given_is_not_changed(self):
        bases, order, names = ["b", "a"], [("a", "b")], {"y": A, "x": B}
        functions = {"g": [([("u", A)], 1, B)], "f": [([], 0, A)]}
        Room(bases, order, names, functions, A)
        self.assertEqual([bases, order, list(names), list(functions)], [["b", "a"], [("a", "b")], ["y", "x"], ["g", "f"]])
        self.assertEqual(functions["g"], [([("u", A)], 1, B)])


class Equality(TestCase):
    def test_told_differently_and_the_same(self):
        one = Room(["a", "b", "c"], [("a", "b"), ("b", "c")], {"x": A, "y": B},
                   {"f": [([("u", A)], 1, B)], "g": [([], 0, A)]}, A)
        other = Room(("c", "a", "b"), (("b", "c"), ("a", "c"), ("a", "b"), ("a", "b")), {"y": B, "x": A},
                     {"g": (((), 0, A),), "f": (((("u", A),), 1, B),)}, A)
        self.assertTrue(one == other)
        self.assertFalse(one != other)

    def test_not_the_same(self):
        row = ([("u", A)], 1, A)
        one = room(order=[("a", "b")], names={"x": A}, functions={"f": [row, ([], 0, B)]})
        for parts in [dict(order=[("b", "a")]), dict(order=[]), dict(bases=["a", "b", "c"]), dict(goal=B),
                      dict(names={"x": B}), dict(names={"y": A}), dict(names={}), dict(names={"x": A, "y": A}),
                      dict(functions={}), dict(functions={"f": [row]}), dict(functions={"f": [([], 0, B), row]}),
                      dict(functions={"g": [row, ([], 0, B)]}),
                      dict(functions={"f": [([("u", A)], 0, A), ([], 0, B)]}),
                      dict(functions={"f": [([("v", A)], 1, A), ([], 0, B)]}),
                      dict(functions={"f": [([("u", B)], 1, A), ([], 0, B)]}),
                      dict(functions={"f": [row, ([], 0, A)]})]:
            given = dict(order=[("a", "b")], names={"x": A}, functions={"f": [row, ([], 0, B)]})
            given.update(parts)
            self.assertFalse(one == room(**given), parts)
            self.assertTrue(one != room(**given), parts)
        self.assertFalse(one == "room")
        self.assertFalse(one == None)  # noqa: E711


class Asking(TestCase):
    def test_in(self):
        told = room(names={"x": A}, functions={"f": [([("u", A)], 1, A)]})
        self.assertEqual([word in told for word in ["x", "f", "a", "u", "z", "", 3, None, ["x"]]],
                         [True, True] + [False] * 7)

    def test_is_below_for_base_types(self):
        told = room(bases=["a", "b", "c", "d"], order=[("b", "c"), ("a", "b")])
        self.assertIs(told.is_below(A, A), True)
        self.assertIs(told.is_below(A, B), True)
        self.assertIs(told.is_below(A, base("c")), True)
        self.assertIs(told.is_below(B, A), False)
        self.assertIs(told.is_below(base("c"), A), False)
        self.assertIs(told.is_below(A, base("d")), False)
        self.assertIs(told.is_below(A, ("any",)), True)
        self.assertIs(told.is_below(base("z"), base("z")), True)
        self.assertIs(told.is_below(base("z"), A), False)

    def test_is_below_for_records(self):
        told = room(order=[("a", "b")])
        empty = ("record", ())
        for one, other, answer in [
                (empty, empty, True), (record(p=A), empty, True), (empty, record(p=A), False),
                (record(p=A, q=B), record(p=A), True), (record(p=A), record(p=A, q=B), False),
                (record(p=A), record(p=B), True), (record(p=B), record(p=A), False),
                (record(p=A), record(q=A), False), (record(p=record(q=A, r=A)), record(p=record(q=B)), True),
                (record(p=record(q=B)), record(p=record(q=A)), False), (record(p=A, q=B), record(p=B, q=A), False),
                (A, empty, False), (empty, A, False), (A, record(p=A), False), (record(p=A), A, False),
                (empty, ("any",), True), (record(p=A), ("any",), True)]:
            self.assertIs(told.is_below(one, other), answer, (one, other))

    def test_is_below_refuses_what_is_no_type(self):
        told = room()
        for one, other in [(("any",), ("any",)), (("any",), A), ("a", A), (A, "a"), (A, None), (nested(9), A),
                           (A, nested(9)), (["base", "a"], A), (A, ["any"]), (A, ("record", [])), (base("any"), A)]:
            raised(BadType, told.is_below, one, other)
        self.assertIs(told.is_below(nested(8), nested(8)), True)
