from itertools import permutations
from random import Random
from unittest import TestCase

from tests.closures import inner_types
from tests.plain import Parser, expressions, fits, is_below, random_parts, random_type, room_of
from tests.samples import BAD_WORDS, base, days, nested, raised, record
from typingroom.errors import BadType, BadWords, TooLarge
from typingroom.mending import Mend, mend
from typingroom.roomtexts import read_room
from typingroom.words import split_text

MOST = 8
A = base("a")
B = base("b")
ROOM = read_room("type a\ntype b\nname x: {p: a}\nfun f(v: a): b\ngoal b\n")
FAR = 10 ** 9


def distance(one, other):
    """The least number of changes, by leaving out, putting in and exchanging."""
    table = {}
    for first in range(len(one) + 1):
        for last in range(len(other) + 1):
            if not first or not last:
                table[first, last] = first + last
            else:
                same = one[first - 1] == other[last - 1]
                table[first, last] = min(table[first - 1, last] + 1, table[first, last - 1] + 1,
                                         table[first - 1, last - 1] + (not same))
    return table[len(one), len(other)]


def is_expression(parts, words, need):
    """Whether words are an expression that fits a type."""
    try:
        parser = Parser(list(words))
        tree = parser.expression()
    except SyntaxError:
        return False
    scope = {name: [kind] for name, kind in parts["names"].items()}
    return parser.at == len(words) and fits(parts, scope, tree, need)


class PlainRules:
    """Point [16] word by word: what the rules tell by some tables."""

    def __init__(self, parts, words, need, chains, exprs):
        self.parts, self.words, self.chains, self.exprs = parts, words, chains, exprs
        rows = [row for signatures in parts["functions"].values() for row in signatures]
        own = list(parts["names"].values()) + [row[2] for row in rows]
        self.own = {inner for kind in own for inner in inner_types(kind)}
        asked = [need] + [kind for row in rows for _, kind in row[0]]
        self.asked = {inner for kind in asked for inner in inner_types(kind)}
        many = len(words)
        self.stretches = [(first, last) for first in range(many + 1) for last in range(first, many + 1)]

    def cost(self, part, first, last):
        shape, told = part
        if shape == "word":
            return last - first - 1 if told in self.words[first:last] else max(last - first, 1)
        return (self.chains if shape == "chain" else self.exprs).get((told, (first, last)), FAR)

    def of_row(self, row, first, last):
        """The least that parts take, one behind the other."""
        ends = {first: 0}
        for part in row:
            ends = {end: min(number + self.cost(part, start, end) for start, number in ends.items() if start <= end)
                    for end in range(first, last + 1)}
        return ends[last]

    def rows_of_chain(self, kind):
        rows = [[("word", name)] for name, own in self.parts["names"].items() if own == kind]
        for word, signatures in self.parts["functions"].items():
            for parameters, needed, result in signatures:
                for many in range(needed, len(parameters) + 1 if result == kind else 0):
                    row = [("word", word), ("word", "(")]
                    for place, (_, asked) in enumerate(parameters[:many]):
                        row += ([("word", ",")] if place else []) + [("expr", asked)]
                    rows.append(row + [("word", ")")])
        return rows + [[("chain", own), ("word", "."), ("word", field)] for own in self.own if own[0] == "record"
                       for field, inner in own[1] if inner == kind]

    def rows_of_expr(self, kind):
        rows = [[("chain", own)] for own in self.own if is_below(self.parts, own, kind)]
        for fields in permutations(kind[1]) if kind[0] == "record" else []:
            row = [("word", "{")]
            for place, (field, inner) in enumerate(fields):
                row += ([("word", ",")] if place else []) + [("word", field), ("word", ":"), ("expr", inner)]
            rows.append(row + [("word", "}")])
        return rows

    def is_mend(self, need, told):
        if not is_expression(self.parts, told.words, need):
            return False
        if self.exprs.get((need, (0, len(self.words)))) != told.number or distance(self.words, told.words) != told.number:
            return False
        for table, kinds, rows_of in ((self.chains, self.own, self.rows_of_chain), (self.exprs, self.asked, self.rows_of_expr)):
            if not set(table) <= {(kind, stretch) for kind in kinds for stretch in self.stretches}:
                return False
            for kind in kinds:
                rows = rows_of(kind)
                for stretch in self.stretches:
                    fewest = min([self.of_row(row, *stretch) for row in rows], default=FAR)
                    if fewest < FAR // 2 and fewest < table.get((kind, stretch), FAR):
                        return False
        return True


def drawn_case(number):
    """A small room, words and a type."""
    random = Random(number)
    parts, fields = random_parts(number)
    marks = ["x", "y", "f", "g", "p", "q", "(", ")", "{", "}", ",", ":", ".", ";", "give", "zz"]
    words = [random.choice(marks[:13] if random.random() < 0.9 else marks) for _ in range(random.randint(0, 6))]
    need = parts["goal"] if random.random() < 0.5 else random_type(random, parts["bases"], fields, 3)
    return random, parts, words, need


class AgainstPlainSearches(TestCase):
    def test_drawn_rooms(self):
        found = [self.compare(number) for number in range(250)]
        self.assertGreater(found.count("all"), 60)
        self.assertGreater(found.count("some"), 20)
        self.assertGreater(found.count(None), 20)

    def compare(self, number):
        random, parts, words, need = drawn_case(number)
        found = expressions(parts, list(parts["names"]), ["p", "q"], MOST, {})
        right = [told for many in found for told in found[many] if is_expression(parts, told, need)]
        room = room_of(parts)
        told = mend(room, words, need)
        if random.random() < 0.2 and right:
            words = random.choice(right)
            told = mend(room, words, need)
            self.assertEqual([told.words, told.number], [words, 0], (parts, words, need))
        if told is None:
            self.assertEqual(right, [], (parts, need))
            return None
        self.assertEqual(mend(room_of(parts), tuple(words), need), told)
        self.assertTrue(told.shows(room, words, need), (parts, words, need))
        self.assertTrue(is_expression(parts, told.words, need), (parts, words, need, told.words))
        self.assertEqual(distance(words, told.words), told.number, (parts, words, need, told.words))
        fewest = min([distance(words, other) for other in right], default=FAR)
        self.assertLessEqual(told.number, fewest, (parts, words, need))
        if len(words) + told.number > MOST:
            return "some"
        self.assertEqual(told.number, fewest, (parts, words, need))
        return "all"

    def test_shows_of_changed_ones(self):
        counts = [0, 0]
        for number in range(60):
            random, parts, words, need = drawn_case(number)
            words = words[:3]
            for _ in range(5):
                told = mend(room_of(parts), words, need)
                if told is not None:
                    change_mend(random, told, need)
                    found = told.shows(room_of(parts), words, need)
                    plain = PlainRules(parts, words, need, told.chains, told.exprs).is_mend(need, told)
                    self.assertEqual(found, plain, (parts, words, need, told.words, told.number, told.chains, told.exprs))
                    counts[found] += 1
        self.assertGreater(min(counts), 20)


class Mended(TestCase):
    def check(self, room, text, need, told, number):
        words = split_text(text)
        found = mend(room, words, need)
        self.assertEqual([found.words, found.number], [split_text(told), number], text)
        self.assertTrue(found.shows(room, words, need))
        return found

    def test_words_and_signs_put_in_left_out_and_exchanged(self):
        self.check(ROOM, "f(x.p)", B, "f(x.p)", 0)
        self.check(ROOM, "f(x.p", B, "f(x.p)", 1)
        self.check(ROOM, "f(x.p))", B, "f(x.p)", 1)
        self.check(ROOM, "f(x.q)", B, "f(x.p)", 1)
        self.check(ROOM, "f(.p)", B, "f(x.p)", 1)
        self.check(ROOM, "f, x.p)", B, "f(x.p)", 1)
        self.check(ROOM, "f x.q)", B, "f(x.p)", 2)
        self.check(ROOM, "", B, "f(x.p)", 6)
        self.check(ROOM, "", record(p=A), "x", 1)
        self.check(ROOM, "x", record(p=A), "x", 0)
        self.check(ROOM, "{x.p}", record(p=A), "{p: x.p}", 2)
        self.check(ROOM, "give ; = : let give", B, "f(x.p)", 6)
        self.check(ROOM, "give ; = : let give a", B, "f(x.p)", 7)
        self.check(ROOM, "x", record(), "x", 0)

    def test_literals_with_fields_in_any_order(self):
        kind = record(p=record(p=A), q=record(), r=record())
        self.check(ROOM, "{r: x, p: x, q: x}", kind, "{r: x, p: x, q: x}", 0)
        self.check(ROOM, "{q: x, r: x, p: x}", kind, "{q: x, r: x, p: x}", 0)
        self.check(ROOM, "{q: x, r: x, q: x}", kind, "{q: x, r: x, p: x}", 1)
        self.check(ROOM, "{r: {}, x, q: x}", kind, "{r: {}, p: x, q: x}", 2)
        self.assertEqual(mend(ROOM, split_text("{q: f x.p), p: x.p"), record(p=A, q=B)).number, 2)

    def test_chains_with_fields(self):
        room = read_room("type a\nname x: {p: {q: {p: a}}}\nfun f(): {r: {s: a}}\ngoal a")
        self.check(room, "x.p.q.p", A, "x.p.q.p", 0)
        self.check(room, "x.p.p", A, "x.p.q.p", 2)
        self.check(room, "f().r", A, "f().r.s", 2)
        self.check(room, "f(x).r.s", A, "f().r.s", 1)

    def test_calls_with_further_arguments(self):
        room = read_room("type a\ntype b\nname x: a\nname y: b\nfun f(u: a, v: b =, w: a =): {o: b}\n"
                         "fun f(u: b): {}\ngoal a")
        self.check(room, "f(x, y, x).o", B, "f(x, y, x).o", 0)
        self.check(room, "f(x, y).o", B, "f(x, y).o", 0)
        self.check(room, "f(x, x).o", B, "f(x, y).o", 1)
        self.check(room, "f(y)", record(), "f(y)", 0)
        self.check(room, "f(y).o", B, "f(x).o", 1)
        self.check(room, "f(x y, x).o", B, "f(x, y, x).o", 1)

    def test_the_room_of_the_document(self):
        self.check(days(), "meet({name: now, who: meet). at plan", base("day"), "meet({name: now})", 7)
        self.check(days(), "plan.whom.nam", base("day"), "plan.who.name", 2)
        self.check(days(), "meet now)", record(id=base("day")), "meet(now)", 1)

    def test_nothing_fits(self):
        self.assertIsNone(mend(ROOM, ["x"], record(q=A, z=base("c"))))
        self.assertIsNone(mend(ROOM, [], base("c")))
        self.assertIsNone(mend(read_room("type a\nfun f(u: a): a\ngoal a"), ["f", "(", ")"], A))
        self.assertIsNotNone(mend(read_room("type a\nfun f(u: a): a\ngoal a"), ["f", "(", ")"], record()))

    def test_long_ones(self):
        room = read_room("type a\ntype b\ntype c\nname x: a\n" + "".join(
            f"fun {word}({', '.join(letter + ': ' + kind for letter in 'opqrst')}): {more}\n"
            for word, kind, more in [("f", "a", "b"), ("g", "b", "c")]) + "goal a")
        told = mend(room, [], base("c"))
        self.assertEqual(told.number, 36 + 7 * 8)
        told = mend(room, split_text("g(f(x, x, x, x, x"), base("c"))
        self.assertEqual([told.number, len(told.words)], [36 + 7 * 8 - 13, 36 + 7 * 8])
        self.assertTrue(told.shows(room, split_text("g(f(x, x, x, x, x"), base("c")))

    def test_deep_chains(self):
        room = read_room("type a\nname x: {}\n" + "".join(
            f"fun {word}(u: {kind}): {more}\n" for word, kind, more in
            [("f", "{}", "{p: {}}"), ("g", "{p: {}}", "{q: {}}"), ("h", "{q: {}}", "{r: {}}"), ("i", "{r: {}}", "a")])
            + "goal a")
        self.check(room, "i", A, "i({r: x})", 7)
        self.check(room, "f", A, "i({r: x})", 8)
        self.check(room, "i(h(g(f(x", A, "i(h(g(f(x))))", 4)


class Evidence(TestCase):
    WORDS = split_text("f x.q)")

    def shows(self, words=None, number=None, chains=None, exprs=None):
        told = mend(ROOM, self.WORDS, B)
        return Mend(told.words if words is None else words, told.number if number is None else number,
                    told.chains if chains is None else chains, told.exprs if exprs is None else exprs).shows(ROOM, self.WORDS, B)

    def test_numbers(self):
        told = mend(ROOM, self.WORDS, B)
        self.assertTrue(self.shows())
        for number in (0, 1, 3, -2):
            self.assertFalse(self.shows(number=number))
            self.assertFalse(self.shows(number=number, exprs={**told.exprs, (B, (0, 5)): number}))
        for key in told.chains:
            self.assertFalse(self.shows(chains={**told.chains, key: told.chains[key] + 1}), key)
            self.assertFalse(self.shows(chains={other: told.chains[other] for other in told.chains if other != key}), key)
        for key in told.exprs:
            self.assertFalse(self.shows(exprs={**told.exprs, key: told.exprs[key] + 1}), key)
            self.assertFalse(self.shows(exprs={other: told.exprs[other] for other in told.exprs if other != key}), key)

    def test_numbers_one_lower(self):
        told = mend(ROOM, self.WORDS, B)
        parts = {"names": {"x": record(p=A)}, "functions": {"f": [((("v", A),), 1, B)]}, "order": []}
        counts = [0, 0]
        for name in ("chains", "exprs"):
            for key in getattr(told, name):
                for less in (1, 5):
                    tables = {"chains": told.chains, "exprs": told.exprs}
                    tables[name] = {**tables[name], key: tables[name][key] - less}
                    found = self.shows(**tables)
                    plain = PlainRules(parts, self.WORDS, B, tables["chains"], tables["exprs"]).is_mend(B, told)
                    self.assertEqual(found, plain, (name, key, less))
                    counts[found] += 1
        self.assertGreater(min(counts), 5)

    def test_other_keys(self):
        told = mend(ROOM, self.WORDS, B)
        for key in [(A, (0, 6)), (A, (2, 1)), (A, (-1, 2)), (base("c"), (0, 1)), (record(), (0, 1))]:
            self.assertFalse(self.shows(chains={**told.chains, key: 3}), key)
            self.assertFalse(self.shows(exprs={**told.exprs, key: 3}), key)
        self.assertFalse(self.shows(exprs={**told.exprs, (record(p=A), (0, 1)): 3}))
        self.assertFalse(self.shows(exprs={}))
        self.assertFalse(self.shows(chains={}))
        self.assertFalse(self.shows(chains={}, exprs={}))

    def test_other_words(self):
        for text in ["f(x)", "f(x.p).p", "f(x.p);", "", "x.p", "f(x.p", "f(f(x.p))"]:
            self.assertFalse(self.shows(words=split_text(text)), text)
        self.assertTrue(self.shows(words=tuple(split_text("f(x.p)"))))
        self.assertFalse(self.shows(words=["f", "(", "x", ".", "p", ")"] * 40))

    def test_two_expressions_with_as_few_changes(self):
        room = read_room("type a\nname x: a\nname y: a\ngoal a")
        told = mend(room, ["z"], A)
        for word, shows in (("x", True), ("y", True), ("z", False)):
            self.assertEqual(Mend([word], told.number, told.chains, told.exprs).shows(room, ["z"], A), shows)
        self.assertFalse(Mend(["y"], 0, told.chains, told.exprs).shows(room, ["x"], A))
        told = mend(room, ["x"], A)
        self.assertFalse(Mend(["y"], 0, told.chains, told.exprs).shows(room, ["x"], A))
        self.assertFalse(Mend(["y"], 1, told.chains, told.exprs).shows(room, ["x"], A))

    def test_numbers_that_no_rule_tells(self):
        room = read_room("type a\ntype b\nname x: a\nfun f(u: b): b\ngoal a")
        told = mend(room, ["x"], A)
        keys = sorted(told.chains)
        self.assertEqual([key[0] for key in keys], [A] * 3)
        for key, number in [((B, (0, 1)), 5), ((B, (0, 0)), 99), ((B, (1, 1)), -7)]:
            self.assertEqual(Mend(told.words, 0, {**told.chains, key: number}, told.exprs).shows(room, ["x"], A),
                             False, key)
            more = {key: number}
            self.assertEqual(Mend(told.words, 0, {**told.chains, **more}, {**told.exprs, **more}).shows(room, ["x"], A),
                             PlainRules({"names": {"x": A}, "functions": {"f": [((("u", B),), 1, B)]}, "order": []},
                                        ["x"], A, {**told.chains, **more}, {**told.exprs, **more}).is_mend(A, told))

    def test_equality_and_copies(self):
        words, chains, exprs = ["x"], {(A, (0, 0)): 1}, {(A, (0, 0)): 1}
        told = Mend(words, 1, chains, exprs)
        words.append("y")
        chains.clear()
        exprs.clear()
        self.assertEqual([told.words, told.number, told.chains, told.exprs], [["x"], 1, {(A, (0, 0)): 1}, {(A, (0, 0)): 1}])
        same = (told.words, told.number, told.chains, told.exprs)
        self.assertEqual(Mend(("x",), *same[1:]), told)
        for place, other in enumerate([["y"], 2, {}, {}]):
            self.assertNotEqual(Mend(*[other if at == place else part for at, part in enumerate(same)]), told)
        self.assertNotEqual(told, same)


class Errors(TestCase):
    def doors(self):
        return [mend, Mend([], 0, {}, {}).shows]

    def test_bad_words_come_first(self):
        for door in self.doors():
            for words in BAD_WORDS:
                for need in (A, ("any",), None):
                    raised(BadWords, door, ROOM, words, need)

    def test_bad_types_come_next(self):
        for door in self.doors():
            for need in (("any",), None, "a", ("base", "any"), ("base",), nested(9), ["base", "a"], ("record", [])):
                for words in ([], ["x"] * 15, ["x"] * 200):
                    raised(BadType, door, ROOM, words, need)

    def test_too_many_words(self):
        for door in self.doors():
            raised(TooLarge, door, ROOM, ["x"] * 15, B)
            raised(TooLarge, door, ROOM, ["x"] * 200, base("zz"))
        told = mend(ROOM, ["x"] * 14, record(p=A))
        self.assertEqual([told.words, told.number], [["x"], 13])
        self.assertTrue(told.shows(ROOM, ["x"] * 14, record(p=A)))

    def test_nothing_is_changed(self):
        room, words = days(), ["plan", "at"]
        told = mend(room, words, base("day"))
        self.assertEqual([room == days(), words], [True, ["plan", "at"]])
        told.words.clear()
        told.exprs.clear()
        self.assertEqual(mend(room, words, base("day")).words, ["plan", ".", "at"])


def change_mend(random, told, need):
    table = random.choice([told.chains, told.exprs])
    change = random.randrange(6)
    key = random.choice(sorted(table)) if table else None
    if change == 0 and table:
        table.pop(key)
    elif change == 1 and table:
        table[key] += random.choice([-3, -1, 1, 2])
    elif change == 2:
        told.number += random.choice([-1, 1])
    elif change == 3:
        told.words = told.words[:-1] if random.random() < 0.5 else told.words + [random.choice(["x", ")", "."])]
    elif change == 4:
        table[random.choice([A, B, need, record(p=A)]), random.choice([(0, 0), (0, 1), (1, 0), (5, 5)])] = random.randint(-2, 9)
    elif table:
        for other in random.sample(sorted(table), min(len(table), 3)):
            table[other] -= random.randint(0, 2)
