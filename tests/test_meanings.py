from itertools import product
from random import Random
from unittest import TestCase

from tests.closures import all_triples, is_clear, record_needs
from tests.plain import is_right, random_parts, right_texts, room_of
from tests.samples import BAD_WORDS, base, days, raised, record
from typingroom.errors import BadRoom, BadWords, NotWhole
from typingroom.meanings import Clear, Double, judge_meanings, meanings
from typingroom.roomtexts import read_room, write_room
from typingroom.words import split_text

MOST = 10
A = base("a")
B = base("b")
HEAD = "type a\ntype b below a\nname x: b\nname y: a\n"


def plain_meanings(parts, words):
    """All choices of signatures, each tried by functions of which each stands once and has one signature."""
    calls = [place for place, word in enumerate(words) if words[place + 1:place + 2] == ["("]]
    rows = [parts["functions"].get(words[place], []) for place in calls]
    alone = ["c" + chr(ord("a") + number // 26) + chr(ord("a") + number % 26) for number in range(len(calls))]
    told = list(words)
    for place, word in zip(calls, alone):
        told[place] = word
    return [choice for choice in product(*[range(len(row)) for row in rows])
            if is_right(dict(parts, functions={word: [row[number]] for word, row, number in zip(alone, rows, choice)}), told)]


class Meanings(TestCase):
    ROOM = read_room(HEAD + "name r: {p: a, q: b}\nfun f(u: a): a\nfun f(u: b): b\nfun f(u: {p: a}): {p: b}\n"
                     "fun g(u: a, v: {p: b, q: a} =): {p: a}\nfun g(): b\nfun h(u: a): a\ngoal a")

    def check(self, text, *rows):
        self.assertEqual(meanings(self.ROOM, split_text(text)), list(rows), text)
        self.assertEqual(meanings(self.ROOM, tuple(split_text(text))), list(rows), text)

    def test_without_calls(self):
        self.check("give x;", ())
        self.check("give r.q;", ())
        self.check("give r;")
        self.check("give z;")
        self.check("give {p: x};")

    def test_calls(self):
        self.check("give f(x);", (0,), (1,))
        self.check("give f(y);", (0,))
        self.check("give f(r);")
        self.check("give f(r).p;", (2,))
        self.check("give g();", (1,))
        self.check("give g(x);")
        self.check("give g(x).p;", (0,))
        self.check("give q(x);")
        self.check("give x(x);")
        self.check("give f;")

    def test_calls_in_calls_and_in_literals(self):
        self.check("give f(f(x));", (0, 0), (0, 1), (1, 1))
        self.check("give h(f(f(y)));", (0, 0, 0))
        self.check("give f({p: f(x)}).p;", (2, 0), (2, 1))
        self.check("give g(f(x), {q: f(y), p: f(g())}).p;", (0, 0, 0, 1, 1), (0, 1, 0, 1, 1))
        self.check("give g(f(x), {p: f(g()), q: f(y)}).p;", (0, 0, 1, 1, 0), (0, 1, 1, 1, 0))
        self.check("give f(f({p: x}).p);", (0, 2), (1, 2))
        self.check("give f({p: x, p: x}).p;")

    def test_the_goal_is_a_record(self):
        room = read_room("type a\nname x: a\nfun f(u: a): a\nfun f(u: a =): {}\ngoal {p: a, q: {}}")
        told = split_text("give {q: f(x), p: f(f(x))};")
        self.assertEqual(meanings(room, told), [(1, 0, 0)])
        self.assertEqual(meanings(room, split_text("give {q: {}, p: f(x)};")), [(0,)])
        self.assertEqual(meanings(room, split_text("give {q: f()};")), [])

    def test_many_choices(self):
        room = read_room("type a\nname x: a\n" + "fun f(u: a): a\n" * 6 + "goal a")
        text = "give f(f(f(f(x))));"
        self.assertEqual(meanings(room, split_text(text)), sorted(product(range(6), repeat=4)))

    def test_deep_texts(self):
        room = read_room("type a\nname x: a\nfun f(u: a): a\ngoal a")
        self.assertEqual(meanings(room, ["give"] + ["f", "("] * 65 + ["x"] + [")"] * 65 + [";"]), [(0,) * 65])

    def test_against_a_plain_trial(self):
        several = 0
        for number in range(120):
            parts, fields = random_parts(number)
            room = room_of(parts)
            texts = right_texts(parts, fields, [], MOST)
            for words in Random(number).sample(texts, min(len(texts), 12)):
                told = meanings(room, words)
                self.assertEqual(told, plain_meanings(parts, words), (parts, words))
                several += len(told) > 1
                other = words[:1] + words[3:4] + words[2:]
                if is_right(parts, other):
                    self.assertEqual(meanings(room, other), plain_meanings(parts, other))
        self.assertGreater(several, 30)

    def test_what_is_not_whole_or_has_lets(self):
        for text in ["", "give", "give x", "give x; ;", "give ;", "x;", "give f(;", "give f(x;", "give {p x};", "give x.;",
                     "let k = x; give k;", "let k = x;", "let", "give x; give x;", "give f x);", "give (x);"]:
            raised(NotWhole, meanings, self.ROOM, split_text(text))

    def test_bad_words(self):
        for words in BAD_WORDS:
            raised(BadWords, meanings, self.ROOM, words)


class Judged(TestCase):
    def test_drawn_rooms(self):
        found = [self.compare(number) for number in range(200)]
        self.assertGreater(found.count(True), 40)
        self.assertGreater(found.count(False), 40)

    def compare(self, number):
        parts, fields = random_parts(number)
        room = room_of(parts)
        told = judge_meanings(room)
        self.assertTrue(told.shows(room), parts)
        self.assertEqual(judge_meanings(room_of(parts)), told)
        double = [words for words in right_texts(parts, fields, [], MOST) if len(plain_meanings(parts, words)) > 1]
        if told:
            self.assertEqual(double, [], parts)
            chains, literals = all_triples(parts)
            self.assertEqual([told.chains, told.literals], [sorted(chains), sorted(literals)], parts)
        else:
            rows = plain_meanings(parts, told.words)
            self.assertEqual(told.rows, [row for row in rows if row in told.rows], (parts, told.words))
            self.assertEqual(len(told.rows), 2)
            if len(told.words) <= MOST:
                self.assertEqual(len(told.words), min(map(len, double)), parts)
            else:
                self.assertEqual(double, [], parts)
        return bool(told)

    def check(self, text, words=None):
        """The words of a Double, or None for a Clear."""
        told = judge_meanings(read_room(text))
        self.assertIsInstance(told, Clear if words is None else Double)
        self.assertTrue(told.shows(read_room(text)))
        if words is not None:
            self.assertEqual(told.words, words.split())
        return told

    def test_told_rooms(self):
        self.check(HEAD + "goal a")
        self.check(HEAD + "fun f(u: a): a\nfun f(u: b): {}\ngoal a")
        self.check(HEAD + "fun f(): a\nfun f(u: b): a\nfun f(u: b, v: b): a\ngoal a")
        self.check(HEAD + "fun f(): a\nfun f(u: b =): a\ngoal a", "give f ( ) ;")
        told = self.check(HEAD + "fun f(u: {p: a}): a\nfun f(u: {p: b}): a\ngoal a", "give f ( { p : x } ) ;")
        self.assertEqual(told.rows, [(0,), (1,)])
        told = self.check(HEAD + "fun f(u: a): {p: {p: a}}\nfun f(u: b): {p: a}\nfun g(u: {}): b\ngoal a",
                          "give g ( f ( x ) ) ;")
        self.assertEqual(told.rows, [(0, 0), (0, 1)])
        self.check("type a\nname x: {p: a}\nfun f(u: {p: a}): {q: a}\nfun f(u: {}): {r: a}\ngoal a",
                   "give f ( f ( x ) ) . r ;")
        self.check("type a\nname x: {p: a}\nfun f(u: {p: a}): {p: a}\nfun f(u: {}): {p: a}\ngoal {p: a}", "give f ( x ) ;")

    def test_goals_that_are_records(self):
        told = self.check(HEAD + "fun f(u: a): a\nfun f(u: b): b\ngoal {p: a, q: {}}", "give { p : f ( x ) , q : { } } ;")
        self.assertEqual(told.rows, [(0,), (1,)])
        self.check(HEAD + "goal {p: a, q: {}}")

    def test_what_a_longer_text_alone_tells(self):
        steps = "".join(f"fun {word}(u: {{p: {kind}}}): {more}\n" for word, kind, more in
                        [("f", "a", "b"), ("g", "b", "c"), ("h", "c", "d")])
        head = "type a\ntype b\ntype c\ntype d\nname x: a\n" + steps
        self.check(head + "goal d")
        self.check(head + "fun end(u: d): a\nfun end(u: {}): a\ngoal d")
        deep = "h ( { p : g ( { p : f ( { p : x } ) } ) } )"
        told = self.check(head + "fun end(u: d): a\nfun end(u: d, v: a =): a\ngoal a", f"give end ( {deep} ) ;")
        self.assertEqual(told.rows, [(0, 0, 0, 0), (1, 0, 0, 0)])
        told = self.check(head + "fun end(u: d): a\nfun end(u: d, v: a =): a\ngoal {q: b}",
                          f"give {{ q : f ( {{ p : end ( {deep} ) }} ) }} ;")
        self.assertEqual(told.rows, [(0, 0, 0, 0, 0), (0, 1, 0, 0, 0)])

    def test_the_triples_of_clear(self):
        room = read_room("type a\ntype b\nname x: a\nfun f(u: a): {q: a}\nfun f(u: a): {q: b}\n"
                         "fun g(u: {p: a, r: {s: a}}): a\nfun g(u: {p: b, r: {s: a}}): {t: b}\ngoal b")
        told = judge_meanings(room)
        one, other, last = record(q=A), record(q=B), record(t=B)
        self.assertEqual(told.chains, [
            (A, A, False), (A, B, True), (A, last, True), (B, A, True), (B, B, False),
            (one, one, False), (one, other, True), (other, one, True), (other, other, False),
            (last, A, True), (last, last, False)])
        one, other, last = record(p=A, r=record(s=A)), record(p=B, r=record(s=A)), record(s=A)
        self.assertEqual(told.literals, [(one, one, False), (one, other, True), (other, one, True), (other, other, False),
                                         (last, last, False)])


class Evidence(TestCase):
    def test_changed_triples(self):
        counts = [0, 0]
        for number in range(80):
            parts, _ = random_parts(number)
            told = judge_meanings(room_of(parts))
            if told and len(told.chains) + len(told.literals) < 20:
                for chains, literals in changed_lists(Random(number), parts, told):
                    found = Clear(chains, literals).shows(room_of(parts))
                    self.assertEqual(found, is_clear(parts, chains, literals), (parts, chains, literals))
                    counts[found] += 1
        self.assertGreater(min(counts), 80)

    def test_a_triple_less_more_or_with_the_other_boolean(self):
        room = read_room(HEAD + "fun f(u: {p: a}): {q: b}\ngoal a")
        told = judge_meanings(room)
        self.assertEqual(told.chains, [(A, A, False), (B, B, False), (record(q=B), record(q=B), False)])
        self.assertEqual(told.literals, [(record(p=A), record(p=A), False)])
        for place, (one, other, differ) in enumerate(told.chains):
            left = told.chains[:place] + told.chains[place + 1:]
            self.assertFalse(Clear(left, told.literals).shows(room))
            self.assertFalse(Clear(left + [(one, other, not differ)], told.literals).shows(room))
        self.assertFalse(Clear(told.chains, []).shows(room))
        self.assertFalse(Clear(told.chains, [(record(p=A), record(p=A), True)]).shows(room))
        for more, shows in [((A, A, True), False), ((A, B, False), True), ((B, A, True), False),
                            ((record(), A, True), True), ((record(z=B), record(z=B), False), True),
                            ((record(z=B), record(z=B), True), False), ((record(z=B), record(w=B), True), True)]:
            self.assertEqual(Clear(told.chains + [more], told.literals).shows(room), shows, more)
        for more in [(A, A, False), (record(q=B), record(q=B), False), (record(p=A), record(p=B), False)]:
            self.assertFalse(Clear(told.chains, told.literals + [more]).shows(room), more)
        for more in [None, (), (A, A), (A, A, False, False), [A, A, False], (A, A, 0), (A, "a", False), (("any",), A, True)]:
            self.assertFalse(Clear(told.chains + [more], told.literals).shows(room), more)
        self.assertTrue(Clear(told.chains * 2, told.literals * 2).shows(room))
        self.assertFalse(Clear([], []).shows(room))

    def test_literals_are_of_records_that_are_asked_and_have_the_same_fields(self):
        room = read_room(HEAD + "fun f(u: {p: a}): b\nfun g(u: {p: b}): b\nfun h(u: {q: b, r: {}}): b\ngoal a")
        told = judge_meanings(room)
        one, other, last = record(p=A), record(p=B), record(q=B, r=record())
        self.assertEqual([one in [row[0] for row in told.literals] for one in (one, other, last, record())], [True] * 4)
        for more, shows in [((one, other, False), True), ((other, one, True), True), ((one, last, False), False),
                            ((last, one, True), False), ((record(p=record()), one, False), False), ((A, A, False), False),
                            ((one, record(p=record()), False), False), ((record(), record(), False), True)]:
            self.assertEqual(Clear(told.chains, told.literals + [more]).shows(room), shows, more)

    def test_doubles(self):
        room = read_room(HEAD + "fun f(u: a): a\nfun f(u: b): b\ngoal a")
        told = judge_meanings(room)
        self.assertEqual([told.words, told.rows], ["give f ( x ) ;".split(), [(0,), (1,)]])
        for text, rows, shows in [
                ("give f(f(x));", [(0, 0), (1, 1)], True), ("give f(f(x));", [(0, 0), (0, 1)], True),
                ("give f(f(x));", [(1, 0), (1, 1)], False), ("give f(f(x));", [(1, 1), (0, 0)], False),
                ("give f(x);", [(0,), (0,)], False), ("give f(x);", [(0,)], False), ("give f(x);", [], False),
                ("give f(x);", [(0,), (1,), (1,)], False), ("give f(x);", [(0,), (2,)], False),
                ("give f(x);", [(-1,), (0,)], False), ("give f(x);", [(0,), (0, 1)], False), ("give x;", [(), (0,)], False),
                ("give f(y);", [(0,), (1,)], False), ("give f(x)", [(0,), (1,)], False), ("", [(0,), (1,)], False),
                ("let k = x; give f(k);", [(0,), (1,)], False), ("give g(x);", [(0,), (1,)], False)]:
            for words in (split_text(text), tuple(split_text(text))):
                self.assertEqual(Double(words, rows).shows(room), shows, (text, rows))
                self.assertEqual(Double(words, tuple(rows)).shows(room), shows, (text, rows))

    def test_doubles_with_very_many_choices(self):
        room = read_room("type a\nname x: a\n" + "fun f(u: a): a\n" * 6 + "goal a")
        words = ["give"] + ["f", "("] * 65 + ["x"] + [")"] * 65 + [";"]
        self.assertTrue(Double(words, [(3,) * 65, (3,) * 64 + (5,)]).shows(room))
        self.assertFalse(Double(words, [(3,) * 65, (3,) * 64 + (6,)]).shows(room))

    def test_tuples_equality_and_copies(self):
        chains, literals, words, rows = [(A, A, False)], [], ["give"], [(0,)]
        one, other = Clear(chains, literals), Double(words, rows)
        for given in (chains, literals, words, rows):
            given.append(1)
        self.assertEqual([one.chains, one.literals, other.words, other.rows], [[(A, A, False)], [], ["give"], [(0,)]])
        self.assertEqual(Clear(((A, A, False),), ()), one)
        self.assertEqual(Double(("give",), ((0,),)), other)
        self.assertNotEqual(Clear([], []), one)
        self.assertNotEqual(Clear([(A, A, False)], [(A, A, False)]), one)
        self.assertNotEqual(Double(["give"], []), other)
        self.assertNotEqual(Double([], [(0,)]), other)
        self.assertNotEqual(Clear([], []), Double([], []))
        self.assertEqual([bool(Clear([], [])), bool(other)], [True, False])
        room = days()
        told = judge_meanings(room)
        told.chains, told.literals = tuple(told.chains), tuple(told.literals)
        self.assertTrue(told.shows(room))


class Errors(TestCase):
    def test_what_is_no_room(self):
        for bad in (None, 3, write_room(days())):
            raised(BadRoom, judge_meanings, bad)
            raised(BadRoom, Clear([], []).shows, bad)
            raised(BadRoom, Double(["any"], []).shows, bad)

    def test_bad_words(self):
        for words in BAD_WORDS:
            if words is not None and words != 3:
                told = Double([], [])
                told.words = words
                raised(BadWords, told.shows, days())

    def test_the_room_is_not_changed(self):
        room = days()
        judge_meanings(room)
        meanings(room, ["give", "now", ";"])
        self.assertEqual(room, days())


def changed_lists(random, parts, told):
    """Lists of triples: some left out, some changed, some more."""
    kinds = [A, B, record(p=A), record()] + record_needs(parts) + list(parts["names"].values())
    records = record_needs(parts)
    yield told.chains, told.literals
    for _ in range(14):
        chains, literals = list(told.chains), list(told.literals)
        rows, able = random.choice([(chains, kinds), (literals, records)])
        place = random.randrange(len(rows)) if rows else None
        change = random.randrange(4)
        if change == 0 and rows:
            rows.pop(place)
        elif change == 1 and rows:
            rows[place] = rows[place][:2] + (not rows[place][2],)
        elif able:
            one = random.choice(able)
            other = random.choice([kind for kind in able if rows is chains or
                                   [field for field, _ in kind[1]] == [field for field, _ in one[1]]])
            rows.append((one, other, random.random() < 0.5))
        yield chains, literals
