from itertools import product
from random import Random
from unittest import TestCase

from tests.closures import all_classes, is_same, record_needs
from tests.plain import is_right, random_parts, right_texts, room_of
from tests.samples import base, days, raised, record
from typingroom.errors import BadRoom
from typingroom.rivals import Same, Unlike, judge_rooms, lean_room, needless
from typingroom.rooms import Room
from typingroom.roomtexts import read_room, write_room

MOST = 10
A = base("a")
B = base("b")
HEAD = "type a\ntype b below a\nname x: b\n"


def changed_parts(random, parts):
    """The parts of a room that is like another one, but for a little."""
    other = dict(parts, names=dict(parts["names"]), order=list(parts["order"]),
                 functions={word: list(rows) for word, rows in parts["functions"].items()})
    for _ in range(random.randint(0, 2)):
        change = random.randrange(6)
        if change == 0 and other["names"]:
            other["names"].pop(random.choice(sorted(other["names"])))
        elif change == 1 and other["order"]:
            other["order"].pop()
        elif change == 2 and other["functions"]:
            word = random.choice(sorted(other["functions"]))
            other["functions"][word].pop(random.randrange(len(other["functions"][word])))
            if not other["functions"][word]:
                del other["functions"][word]
        elif change == 3 and other["functions"]:
            word = random.choice(sorted(other["functions"]))
            rows = other["functions"][word]
            place = random.randrange(len(rows))
            rows[place] = (rows[place][0], random.randint(0, len(rows[place][0])), rows[place][2])
        elif change == 4:
            other["goal"] = random.choice(sorted(other["names"].values()) or [other["goal"]])
        elif change == 5 and other["functions"]:
            random.shuffle(other["functions"][random.choice(sorted(other["functions"]))])
    return other


class AgainstPlainSearches(TestCase):
    def test_drawn_rooms(self):
        found = [self.compare(number) for number in range(160)]
        self.assertGreater(found.count(True), 40)
        self.assertGreater(found.count(False), 40)

    def compare(self, number):
        random = Random(number)
        one, fields = random_parts(number)
        other = changed_parts(random, one) if number % 4 else random_parts(number + 1000)[0]
        told = judge_rooms(room_of(one), room_of(other))
        self.assertTrue(told.shows(room_of(one), room_of(other)), (one, other))
        self.assertEqual(bool(judge_rooms(room_of(other), room_of(one))), bool(told), (one, other))
        texts = [{tuple(words) for words in right_texts(parts, ["p", "q"], [], MOST)} for parts in (one, other)]
        shortest = min([len(words) for words in texts[0] ^ texts[1]], default=None)
        if told:
            self.assertIsInstance(told, Same)
            self.assertIsNone(shortest, (one, other))
            self.check_classes((one, other), told)
        else:
            self.assertIsInstance(told, Unlike)
            self.assertNotEqual(is_right(one, told.words), is_right(other, told.words), (one, other))
            self.assertNotIn("let", told.words)
            if len(told.words) <= MOST:
                self.assertEqual(len(told.words), shortest, (one, other))
            else:
                self.assertIsNone(shortest, (one, other))
        return bool(told)

    def check_classes(self, rooms, told):
        chains, literals = all_classes(rooms)
        self.assertEqual(told.chains, sorted(chains), rooms)
        self.assertEqual(told.literals, sorted(literals), rooms)

    def test_what_is_needless(self):
        counts = [self.compare_needless(number) for number in range(60)]
        self.assertGreater(sum(counts), 60)

    def compare_needless(self, number):
        parts, _ = random_parts(number, most_names=3, most_functions=2)
        room = room_of(parts)
        things = sorted(parts["names"])
        things += [(word, place) for word in sorted(parts["functions"]) for place in range(len(parts["functions"][word]))]
        found = [thing for thing in things if judge_rooms(room, room_of(without(parts, thing)))]
        self.assertEqual(needless(room), found, parts)
        left = parts
        for thing in things[::-1]:
            if judge_rooms(room_of(left), room_of(without(left, thing))):
                left = without(left, thing)
        self.assertEqual(lean_room(room), room_of(left), parts)
        self.assertEqual(needless(lean_room(room)), [], parts)
        return len(found)


def without(parts, thing):
    """The parts without a name or a signature, and without a function whose last signature it was."""
    names = {name: kind for name, kind in parts["names"].items() if name != thing}
    functions = {word: [row for place, row in enumerate(rows) if (word, place) != thing]
                 for word, rows in parts["functions"].items()}
    return dict(parts, names=names, functions={word: rows for word, rows in functions.items() if rows})


class Alike(TestCase):
    def check(self, one, other, is_alike=True):
        for first, second in ((one, other), (other, one)):
            told = judge_rooms(read_room(first), read_room(second))
            self.assertEqual(isinstance(told, Same), is_alike, (first, second))
            self.assertTrue(told.shows(read_room(first), read_room(second)), (first, second))
            self.assertEqual(judge_rooms(read_room(first), read_room(second)), told)

    def test_another_order_of_signatures(self):
        self.check(HEAD + "fun f(u: a): b\nfun f(u: {p: b}): a\ngoal a", HEAD + "fun f(u: {p: b}): a\nfun f(v: a): b\ngoal a")

    def test_what_adds_nothing(self):
        self.check(HEAD + "goal a", HEAD + "name y: {p: {q: b}}\nfun f(u: a): {}\ngoal a", False)
        self.check(HEAD + "goal a", HEAD + "name y: {p: {}}\nfun f(u: a): {}\ngoal a")
        self.check(HEAD + "fun f(u: a): a\ngoal a", HEAD + "fun f(u: a): a\nfun f(u: b): b\ngoal a")
        self.check(HEAD + "fun f(u: a): a\nfun g(u: b): b\ngoal a", HEAD + "fun f(u: b): b\nfun g(u: a): b\ngoal b", False)
        self.check("type a\ntype c\nname x: a\ngoal a", "type a\nname x: a\ngoal a")
        self.check("type a\ntype c below a\nname x: a\nfun f(u: c): a\ngoal a", "type a\nname x: a\ngoal a")

    def test_rooms_in_which_nothing_can_be_right(self):
        self.check("type a\ngoal a", "type b\nname x: {}\nfun f(u: b): b\ngoal b")

    def test_unlike_bases_goals_names_and_functions(self):
        self.check("type a\nname x: a\ngoal a", "type b\nname x: b\ngoal b")
        self.check("type a\nname x: a\ngoal a", "type b\nname x: b\ngoal {p: b}", False)
        self.check("type a\nname x: a\ngoal a", "type b\nname y: b\ngoal b", False)
        self.check("type a\nfun f(): a\ngoal a", "type a\nfun g(): a\ngoal a", False)
        self.check("type a\nname f: a\ngoal a", "type a\nfun f(): a\ngoal a", False)
        self.check("type a\nname x: a\ngoal {p: a}", "type a\nname x: a\ngoal {q: a}", False)
        self.check("type a\ngoal {}", "type a\ngoal a", False)

    def test_more_and_fewer_arguments(self):
        one = HEAD + "fun f(u: a, v: a =): b\ngoal a"
        self.check(one, HEAD + "fun f(u: a): b\ngoal a", False)
        self.check(one, HEAD + "fun f(u: a): b\nfun f(u: a, v: a): b\ngoal a")
        self.check(one, HEAD + "fun f(u: a =, v: a =): b\ngoal a", False)

    def test_literals_that_one_room_does_not_ask_for(self):
        self.check(HEAD + "fun f(u: {p: a, q: {}}): b\ngoal a", HEAD + "fun f(u: {p: b, q: {}}): b\ngoal a")
        self.check(HEAD + "name y: a\nfun f(u: {p: a, q: {}}): a\ngoal a",
                   HEAD + "name y: a\nfun f(u: {p: b, q: {}}): a\ngoal a", False)

    def test_what_only_a_long_text_tells(self):
        steps = "".join(f"fun {word}(u: {{p: {kind}}}): {more}\n" for word, kind, more in
                        [("f", "a", "b"), ("g", "b", "c"), ("h", "c", "d"), ("i", "d", "e")])
        one = "type a\ntype b\ntype c\ntype d\ntype e\nname x: a\n" + steps
        self.check(one + "fun end(u: e, v: e, w: e): a\ngoal a", one + "fun end(u: e, v: e): a\ngoal a", False)
        told = judge_rooms(read_room(one + "fun end(u: e, v: e): a\ngoal a"), read_room(one + "goal a"))
        deep = "i ( { p : h ( { p : g ( { p : f ( { p : x } ) } ) } ) } )".split()
        self.assertEqual(told.words, ["give", "end", "("] + deep + [","] + deep + [")", ";"])

    def test_the_fewest_words_of_several_ways(self):
        head = "type a\ntype b\ntype c\ntype d\nname x: a\n"
        for one, words in [
                ("name y: {p: {p: {p: {p: d}}}}\nfun f(u: a, v: a, w: a): d\ngoal d", "f ( x , x , x )"),
                ("name y: {p: {p: {p: {p: d}}}}\nfun f(u: a): b\nfun g(u: b): c\nfun h(u: c): d\ngoal d", "y . p . p . p . p"),
                ("name y: {p: {p: a}}\nfun f(u: c, v: a): d\nfun g(u: {p: {q: a}}): c\ngoal d",
                 "f ( g ( { p : { q : x } } ) , x )"),
                ("name y: {p: c}\nfun f(u: c): d\nfun g(u: {q: a}): c\ngoal d", "f ( y . p )"),
                ("fun f(u: {p: a, q: a}): d\nfun g(u: a, v: a, w: a, y: a, z: a, o: a): d\ngoal d", "f ( { p : x , q : x } )"),
                ("fun f(u: {p: a, q: a}): d\nfun g(u: a, v: a, w: a, y: a): d\ngoal d", "g ( x , x , x , x )")]:
            told = judge_rooms(read_room(head + one), read_room(head + "goal d"))
            self.assertEqual(told.words, ["give"] + words.split() + [";"], one)

    def test_words_can_be_more_than_a_text_that_is_given(self):
        head = "type a\ntype b\ntype c\ntype d\nname x: a\n" + "".join(
            f"fun {word}({', '.join(letter + ': ' + kind for letter in 'opqrst')}): {more}\n"
            for word, kind, more in [("f", "a", "b"), ("g", "b", "c"), ("h", "c", "d")])
        one, other = read_room(head + "fun end(u: d): a\ngoal a"), read_room(head + "goal a")
        told = judge_rooms(one, other)
        self.assertEqual(len(told.words), 2 + 3 + 216 + 3 * (1 + 6 + 36) + 5 * (1 + 6 + 36))
        self.assertTrue(told.shows(one, other))
        self.assertFalse(Unlike(told.words + [";"]).shows(one, other))
        self.assertTrue(judge_rooms(one, one))

    def test_the_last_signature(self):
        room = read_room(HEAD + "fun f(u: {p: {q: a}}): {}\nfun g(u: a): {}\nname z: {}\ngoal a")
        self.assertEqual(needless(room), ["z", ("f", 0), ("g", 0)])
        self.assertEqual(write_room(lean_room(room)), HEAD + "goal a\n")

    def test_one_of_two_that_do_the_same(self):
        room = read_room(HEAD + "fun f(u: a): a\nfun f(u: b): b\nfun g(u: b): a\nfun g(v: a): b\ngoal a")
        self.assertEqual(needless(room), [("f", 0), ("f", 1), ("g", 0)])
        self.assertEqual(lean_room(room), read_room(HEAD + "fun f(u: a): a\nfun g(v: a): b\ngoal a"))


class Evidence(TestCase):
    def test_changed_classes(self):
        counts = [0, 0]
        for number in range(60):
            one, _ = random_parts(number)
            other = changed_parts(Random(number), one)
            told = judge_rooms(room_of(one), room_of(other))
            if told and len(told.chains) + len(told.literals) < 12:
                for chains, literals in changed_lists(Random(number), (one, other), told):
                    found = Same(chains, literals).shows(room_of(one), room_of(other))
                    self.assertEqual(found, is_same((one, other), chains, literals), (one, other, chains, literals))
                    counts[found] += 1
        self.assertGreater(min(counts), 100)

    def test_a_class_less(self):
        room = read_room(HEAD + "fun f(u: {p: a}): {q: b}\ngoal a")
        told = judge_rooms(room, room)
        self.assertEqual(told.chains, [((B,), (B,)), ((record(q=B),), (record(q=B),))])
        self.assertEqual(told.literals, [((record(p=A),), (record(p=A),))])
        for place in range(2):
            self.assertFalse(Same(told.chains[:place] + told.chains[place + 1:], told.literals).shows(room, room))
        self.assertFalse(Same(told.chains, []).shows(room, room))
        self.assertFalse(Same([], []).shows(room, room))

    def test_a_class_more(self):
        room = read_room(HEAD + "fun f(u: {p: a}): {q: b}\ngoal a")
        told = judge_rooms(room, room)
        for more, shows in [(((A,), (A,)), True), (((A,), (B,)), True), (((A,), ()), False), (((), (A,)), False),
                            (((A, B), (A,)), True), (((B, A), (A,)), False), (((A, A), (A,)), False), (((), ()), False),
                            (((record(z=B),), (record(z=B),)), True), (((record(z=A),), (record(z=A),)), False),
                            (((record(z=record()),), ()), False)]:
            self.assertEqual(Same(told.chains + [more], told.literals).shows(room, room), shows, more)
        for more in [((A,), (A,)), ((record(q=B),), (record(q=B),)), ((), ())]:
            self.assertFalse(Same(told.chains, told.literals + [more]).shows(room, room), more)
        for more in [None, (), ((A,),), ((A,), (A,), (A,)), [(A,), (A,)], ([A], [A]), ((A,), ("a",)), ((A,), None)]:
            self.assertFalse(Same(told.chains + [more], told.literals).shows(room, room), more)
        self.assertTrue(Same(told.chains + told.chains, told.literals * 2).shows(room, room))

    def test_other_rooms(self):
        room = read_room(HEAD + "goal a")
        told = judge_rooms(room, room)
        self.assertTrue(told.shows(room, read_room(HEAD + "goal b")))
        self.assertFalse(told.shows(room, read_room(HEAD + "name y: b\ngoal a")))
        self.assertFalse(told.shows(room, read_room(HEAD + "goal {}")))
        self.assertFalse(told.shows(room, read_room("type b\nname x: {p: b}\ngoal b")))

    def test_unlike_does_not_ask_for_few(self):
        one, other = read_room(HEAD + "fun f(u: a): b\ngoal a"), read_room(HEAD + "goal a")
        told = judge_rooms(one, other)
        self.assertEqual(told.words, "give f ( x ) ;".split())
        for text, shows in [("give f ( f ( x ) ) ;", True), ("give x ;", False), ("give y ;", False), ("", False),
                            ("let k = x ; give f ( x ) ;", False), ("give f ( x )", False), ("give f ( x ) ; ;", False),
                            ("f ( x )", False), ("give any ;", False), ("give f ( x . p ) ;", False)]:
            for words in (text.split(), tuple(text.split())):
                self.assertEqual(Unlike(words).shows(one, other), shows, text)
                self.assertEqual(Unlike(words).shows(other, one), shows, text)
                self.assertFalse(Unlike(words).shows(one, one), text)
                told.words = words
                self.assertEqual(told.shows(one, other), shows, text)

    def test_tuples_and_equality(self):
        room = days()
        told = judge_rooms(room, room)
        self.assertEqual(Same(tuple(told.chains), tuple(told.literals)), told)
        self.assertNotEqual(Same(told.chains[1:], told.literals), told)
        self.assertNotEqual(Same(told.chains, told.literals[1:]), told)
        self.assertNotEqual(Same([], []), Unlike([]))
        self.assertEqual(Unlike(("give",)), Unlike(["give"]))
        self.assertNotEqual(Unlike(["give"]), Unlike([]))
        self.assertEqual([bool(Same([], [])), bool(Unlike(["give"]))], [True, False])
        told.chains, told.literals = tuple(told.chains), tuple(told.literals)
        self.assertTrue(told.shows(room, room))

    def test_what_is_given_is_copied(self):
        chains, literals, words = [((A,), (A,))], [], ["give"]
        told, other = Same(chains, literals), Unlike(words)
        chains.append(1)
        literals.append(1)
        words.append(1)
        self.assertEqual([told.chains, told.literals, other.words], [[((A,), (A,))], [], ["give"]])


class Errors(TestCase):
    def test_what_is_no_room(self):
        room = days()
        for bad in (None, 3, "type a\ngoal a", write_room(room), Room):
            for one, other in ((bad, room), (room, bad), (bad, bad)):
                raised(BadRoom, judge_rooms, one, other)
                raised(BadRoom, Same([], []).shows, one, other)
                raised(BadRoom, Unlike(["let"]).shows, one, other)
            raised(BadRoom, needless, bad)
            raised(BadRoom, lean_room, bad)

    def test_rooms_are_not_changed_or_kept(self):
        room, same = days(), days()
        found = lean_room(room)
        judge_rooms(room, room)
        self.assertEqual(room, same)
        found.names["zz"] = base("day")
        found.functions["meet"].clear()
        self.assertEqual(room, same)
        self.assertEqual(lean_room(room), lean_room(same))
        self.assertIsNot(lean_room(read_room(HEAD + "goal a")), room)

    def test_dicts_in_any_order(self):
        rows = {"x": A, "y": B}
        functions = {"f": [((("u", A),), 1, B)], "g": [((("u", B),), 1, A)]}
        rooms = [Room(["a", "b"], [("b", "a")], {name: rows[name] for name in names},
                      {word: functions[word] for word in words}, A)
                 for names, words in product(("xy", "yx"), ("fg", "gf"))]
        found = [judge_rooms(room, rooms[0]) for room in rooms]
        self.assertTrue(all(told == found[0] for told in found))
        other = read_room("type a\ngoal {p: a}")
        found = [judge_rooms(room, other).words for room in rooms]
        self.assertTrue(all(words == found[0] for words in found))


def changed_lists(random, rooms, told):
    """Lists of classes: some left out, some changed, some more."""
    kinds = [A, B, record(p=A), record()] + list(record_needs(*rooms))
    records = record_needs(*rooms)
    yield told.chains, told.literals
    for _ in range(12):
        chains, literals = list(told.chains), list(told.literals)
        for _ in range(random.randint(1, 2)):
            rows, able = random.choice([(chains, kinds), (literals, records)])
            change = random.randrange(3)
            drawn = tuple(tuple(sorted({random.choice(able) for _ in range(random.randint(0, 2))})) if able else ()
                          for _ in range(2))
            drawn = drawn if random.random() < 0.5 else (drawn[0], drawn[0])
            if change == 0 and rows:
                rows.pop(random.randrange(len(rows)))
            elif change == 1 and rows and drawn != ((), ()):
                rows[random.randrange(len(rows))] = drawn
            elif drawn != ((), ()):
                rows.append(drawn)
        yield chains, literals
