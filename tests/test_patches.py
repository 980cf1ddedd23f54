from itertools import permutations, product
from random import Random
from unittest import TestCase

from tests.samples import BAD_WORDS, raised
from typingroom.edits import Edit, carried
from typingroom.errors import BadEdit, BadWords
from typingroom.patches import Clash, Patch, Together, all_together, behind, patch, together

ORIGINAL = ["a", "b", "c", "d", "e", "f", "g", "h", "i", "j", "k", "l"]


def drawn_edits(random, many, most=6, words="xyz"):
    """Edits that can be done, one behind the other, on so many words."""
    edits = []
    for _ in range(random.randint(0, most)):
        first, last = sorted([random.randint(0, many), random.randint(0, many)])
        last = min(last, first + random.choice([0, 0, 1, 2]))
        edits.append(Edit(first, last, [random.choice(words) for _ in range(random.choice([0, 1, 1, 2]))]))
        many += edits[-1].growth()
    return edits


def done(edits, words):
    """The words behind edits, None if they can not all be done."""
    for edit in edits:
        if edit.last > len(words):
            return None
        words = edit(words)
    return words


def told_by(one, words):
    """What a patch makes of words, None if it is not done on so few."""
    return one(words) if len(words) >= one.least else None


def drawn_changes(random, last, most=3, words="xyz"):
    """Changes that are ascending and apart."""
    changes = []
    at = random.randint(0, 2)
    while at <= last and len(changes) < most:
        end = min(last, at + random.choice([0, 0, 1, 2]))
        put = tuple(random.choice(words) for _ in range(random.choice([0, 1, 1, 2])))
        if put or at < end:
            changes.append((at, end, put))
        at = end + random.randint(1, 3)
    return tuple(changes)


def drawn_patch(random, last=6, words="xyz"):
    changes = drawn_changes(random, last, words=words)
    return Patch(changes, (changes[-1][1] if changes else 0) + random.choice([0, 0, 1, 4]))


class Patches(TestCase):
    def check(self, edits, changes, least):
        told = patch(edits)
        self.assertEqual([told.changes, told.least], [changes, least])
        self.assertEqual(patch(tuple(edits)), told)
        self.assertEqual(told, Patch(changes, least))
        return told

    def test_told_ones(self):
        self.check([], (), 0)
        self.check([Edit(2, 3, ["x"])], ((2, 3, ("x",)),), 3)
        self.check([Edit(2, 2, [])], (), 2)
        self.check([Edit(0, 1, ["a"]), Edit(1, 1, ["b"])], ((0, 1, ("a", "b")),), 1)
        self.check([Edit(3, 5, []), Edit(2, 2, ["c"])], ((2, 2, ("c",)), (3, 5, ())), 5)
        self.check([Edit(3, 5, []), Edit(3, 3, ["c"])], ((3, 5, ("c",)),), 5)

    def test_edits_that_touch_or_overlap(self):
        self.check([Edit(1, 2, ["x"]), Edit(2, 3, ["y"])], ((1, 3, ("x", "y")),), 3)
        self.check([Edit(2, 3, ["y"]), Edit(1, 2, ["x"])], ((1, 3, ("x", "y")),), 3)
        self.check([Edit(1, 2, ["x", "y"]), Edit(2, 4, ["z"])], ((1, 3, ("x", "z")),), 3)
        self.check([Edit(1, 2, ["x"]), Edit(0, 3, [])], ((0, 3, ()),), 3)
        self.check([Edit(1, 3, []), Edit(0, 2, ["z"])], ((0, 4, ("z",)),), 4)
        self.check([Edit(1, 2, ["x", "y", "z"]), Edit(2, 3, ["a"])], ((1, 2, ("x", "a", "z")),), 2)
        self.check([Edit(0, 0, ["x"]), Edit(2, 2, ["y"])], ((0, 0, ("x",)), (1, 1, ("y",))), 1)

    def test_what_is_put_in_and_taken_out_again(self):
        self.check([Edit(1, 1, ["x"]), Edit(1, 2, [])], (), 1)
        self.check([Edit(1, 1, ["x", "y"]), Edit(2, 3, [])], ((1, 1, ("x",)),), 1)
        self.check([Edit(0, 0, ["x", "x", "x"]), Edit(0, 5, [])], ((0, 2, ()),), 2)
        self.check([Edit(0, 0, ["x", "x", "x"]), Edit(3, 3, [])], ((0, 0, ("x", "x", "x")),), 0)

    def test_the_same_words_are_not_nothing(self):
        told = self.check([Edit(1, 2, []), Edit(1, 1, ["b"])], ((1, 2, ("b",)),), 2)
        self.assertEqual(told(["a", "b"]), ["a", "b"])
        self.assertNotEqual(told, patch([Edit(2, 2, [])]))
        self.assertNotEqual(told, patch([]))

    def test_the_least_number(self):
        self.check([Edit(0, 0, ["x"]), Edit(5, 5, [])], ((0, 0, ("x",)),), 4)
        self.check([Edit(0, 3, []), Edit(5, 5, [])], ((0, 3, ()),), 8)
        self.check([Edit(9, 9, []), Edit(0, 3, [])], ((0, 3, ()),), 9)
        self.check([Edit(0, 0, ["x"] * 5), Edit(3, 4, [])], ((0, 0, ("x",) * 4),), 0)

    def test_far_places(self):
        self.check([Edit(10 ** 9, 10 ** 9, ["x"]), Edit(0, 10 ** 8, [])], ((0, 10 ** 8, ()), (10 ** 9, 10 ** 9, ("x",))), 10 ** 9)

    def test_drawn_rows_of_edits(self):
        for number in range(800):
            random = Random(number)
            edits = drawn_edits(random, random.randint(0, 8))
            told = patch(edits)
            for many in range(len(ORIGINAL) + 1):
                self.assertEqual(told_by(told, ORIGINAL[:many]), done(edits, ORIGINAL[:many]), (number, many))
            if told.least:
                raised(BadEdit, told, ORIGINAL[:told.least - 1])
            self.assertEqual(Patch(told.changes, told.least), told)
            self.assertEqual(told.growth(), sum(edit.growth() for edit in edits))
            self.assertLessEqual(len(told), len(edits))

    def test_equal_ones_do_the_same_and_others_do_not(self):
        found = [patch(drawn_edits(Random(number), 2, 3, "x")) for number in range(300)]
        texts = [ORIGINAL[:many] for many in range(9)]
        equal = 0
        for one, other in product(found[:100], found[100:]):
            same = all(told_by(one, words) == told_by(other, words) for words in texts)
            self.assertEqual(one == other, same, (one.changes, other.changes))
            equal += same
        self.assertGreater(equal, 500)

    def test_sixty_edits(self):
        edits = [Edit(2 * place, 2 * place + 1, ["x", "y"]) for place in range(60)]
        self.assertEqual(len(patch(edits)), 1)
        edits = [Edit(3 * place, 3 * place + 1, ["x", "y"]) for place in range(60)]
        told = patch(edits)
        self.assertEqual([len(told), told.changes[1], told.least, len(told.edits())], [60, (2, 3, ("x", "y")), 119, 60])


class Methods(TestCase):
    def test_len_iteration_bool_and_equality(self):
        told = Patch(((1, 2, ()), (3, 3, ("x",))), 4)
        self.assertEqual([len(told), list(told), bool(told), told.growth()], [2, [(1, 2, ()), (3, 3, ("x",))], True, 0])
        none = Patch((), 4)
        self.assertEqual([len(none), list(none), bool(none), none.growth(), none.edits()], [0, [], False, 0, []])
        self.assertEqual(told, Patch(((1, 2, ()), (3, 3, ("x",))), 4))
        for other in (Patch(told.changes, 5), Patch(told.changes[:1], 4), none, told.changes, None):
            self.assertNotEqual(told, other)

    def test_calls(self):
        told = Patch(((1, 2, ("x", "y")), (3, 3, ("z",))), 4)
        words = ["a", "b", "c", "d"]
        self.assertEqual(told(words), ["a", "x", "y", "c", "z", "d"])
        self.assertEqual(told(tuple(words)), told(words))
        self.assertEqual(words, ["a", "b", "c", "d"])
        raised(BadEdit, told, words[:3])
        self.assertIsNot(Patch((), 0)(words), words)
        self.assertEqual(len(Patch(((0, 0, ("x",) * 5),), 0)(["y"] * 200)), 205)
        for bad in BAD_WORDS:
            raised(BadWords, told, bad)
            raised(BadWords, Patch((), 10 ** 6), bad)

    def test_edits_do_the_same(self):
        for number in range(300):
            told = drawn_patch(Random(number))
            edits = told.edits()
            self.assertEqual(len(edits), len(told))
            for many in range(told.least, len(ORIGINAL) + 1):
                self.assertEqual(done(edits, ORIGINAL[:many]), told(ORIGINAL[:many]))
            again = patch(edits)
            self.assertEqual(again.changes, told.changes)

    def test_behind(self):
        for number in range(600):
            random = Random(number)
            one = drawn_patch(random)
            other = drawn_patch(random, random.randint(0, 8))
            told = behind(one, other)
            for many in range(16):
                words = (ORIGINAL + ["m", "n", "o", "p"])[:many]
                after = told_by(one, words)
                self.assertEqual(told_by(told, words), None if after is None else told_by(other, after), number)
            self.assertEqual(Patch(told.changes, told.least), told)
        self.assertEqual(behind(Patch((), 3), Patch((), 5)), Patch((), 5))
        self.assertEqual(behind(Patch(((0, 2, ()),), 3), Patch((), 5)), Patch(((0, 2, ()),), 7))
        self.assertEqual(behind(Patch(((0, 0, ("x",)),), 0), Patch(((0, 1, ()),), 1)), Patch((), 0))


class Hands(TestCase):
    def patches(self, *rows):
        return [Patch(tuple(changes), max([last for _, last, _ in changes], default=0)) for changes in rows]

    def check(self, one, other, whole, rest, more):
        first, second = self.patches(one, other)
        told = together(first, second)
        self.assertIsInstance(told, Together)
        self.assertEqual([told.whole.changes, told.one.changes, told.other.changes], [tuple(whole), tuple(rest), tuple(more)])
        self.check_orders(first, second)

    def check_orders(self, one, other):
        """What whole does is what one and then other do, both ways round, on words that are just enough, and more."""
        told = together(one, other)
        least = max(one.least, other.least)
        self.assertEqual(told.whole.least, least)
        self.assertEqual([told.one.least, told.other.least], [least + other.growth(), least + one.growth()])
        for many in (least, least + 1, least + 5):
            words = [ORIGINAL[place // 12] + ORIGINAL[place - 12 * (place // 12)] for place in range(many)]
            self.assertEqual(told.whole(words), told.other(one(words)))
            self.assertEqual(told.whole(words), told.one(other(words)))
        raised(BadEdit, told.whole, ["a"] * (least - 1)) if least else None
        back = together(other, one)
        self.assertEqual([back.whole, back.one, back.other], [told.whole, told.other, told.one])

    def test_apart_and_touching(self):
        self.check([(0, 1, ("x",))], [(3, 4, ())], [(0, 1, ("x",)), (3, 4, ())], [(0, 1, ("x",))], [(3, 4, ())])
        self.check([(0, 1, ("x", "y"))], [(1, 2, ("z",))], [(0, 2, ("x", "y", "z"))], [(0, 1, ("x", "y"))], [(2, 3, ("z",))])
        self.check([], [(1, 2, ())], [(1, 2, ())], [], [(1, 2, ())])
        self.check([], [], [], [], [])

    def test_one_puts_in_where_another_one_begins_or_ends(self):
        self.check([(1, 1, ("x",))], [(1, 2, ("y",))], [(1, 2, ("x", "y"))], [(1, 1, ("x",))], [(2, 3, ("y",))])
        self.check([(2, 2, ("x",))], [(1, 2, ("y",))], [(1, 2, ("y", "x"))], [(2, 2, ("x",))], [(1, 2, ("y",))])
        self.check([(1, 1, ("x",))], [(0, 1, ()), (2, 2, ("z",))], [(0, 1, ("x",)), (2, 2, ("z",))], [(0, 0, ("x",))],
                   [(0, 1, ()), (3, 3, ("z",))])

    def test_the_same_changes(self):
        self.check([(1, 2, ("x",))], [(1, 2, ("x",))], [(1, 2, ("x",))], [], [])
        self.check([(1, 1, ("x",))], [(1, 1, ("x",)), (3, 4, ())], [(1, 1, ("x",)), (3, 4, ())], [], [(4, 5, ())])
        self.check([(0, 1, ()), (4, 5, ("y",))], [(0, 1, ()), (2, 3, ("z", "z"))],
                   [(0, 1, ()), (2, 3, ("z", "z")), (4, 5, ("y",))], [(4, 5, ("y",))], [(1, 2, ("z", "z"))])

    def test_what_is_left_can_touch(self):
        self.check([(0, 1, ("x",)), (2, 3, ("y",))], [(1, 2, ())], [(0, 3, ("x", "y"))], [(0, 2, ("x", "y"))], [(1, 2, ())])
        self.check([(1, 1, ("x",)), (2, 2, ("y",))], [(1, 2, ())], [(1, 2, ("x", "y"))], [(1, 1, ("x", "y"))], [(2, 3, ())])
        self.check([(1, 1, ("x",)), (2, 2, ("a",))], [(1, 2, ())], [(1, 2, ("x", "a"))], [(1, 1, ("x", "a"))], [(2, 3, ())])

    def test_unlike_leasts(self):
        self.check_orders(Patch(((0, 2, ()),), 9), Patch(((3, 3, ("x",)),), 3))
        told = together(Patch(((0, 2, ()),), 9), Patch(((3, 3, ("x",)),), 3))
        self.assertEqual([told.whole.least, told.one.least, told.other.least], [9, 10, 7])

    def test_clashes(self):
        for one, other, first, second in [
                ([(0, 2, ())], [(1, 3, ())], 0, 0), ([(1, 1, ("x",))], [(1, 1, ("y",))], 0, 0),
                ([(0, 2, ())], [(1, 1, ("x",))], 0, 0), ([(1, 2, ("x",))], [(1, 2, ("y",))], 0, 0),
                ([(1, 2, ("x",))], [(1, 2, ())], 0, 0), ([(1, 2, ())], [(1, 3, ())], 0, 0),
                ([(0, 1, ()), (3, 4, ())], [(0, 1, ()), (3, 4, ("x",))], 1, 1),
                ([(0, 1, ()), (3, 9, ())], [(2, 2, ("x",)), (4, 4, ("x",)), (5, 6, ())], 1, 1),
                ([(0, 5, ()), (6, 6, ("x",))], [(2, 3, ()), (4, 4, ("x",)), (6, 6, ("y",))], 0, 0)]:
            told = together(*self.patches(one, other))
            self.assertEqual(told, Clash(first, second), (one, other))
            self.assertEqual([told.one, told.other, bool(told)], [first, second, False])
            self.assertIsInstance(together(*self.patches(other, one)), Clash)

    def test_drawn_ones(self):
        found = [self.compare(Random(number)) for number in range(800)]
        self.assertGreater(found.count(True), 200)
        self.assertGreater(found.count(False), 200)

    def compare(self, random):
        one, other = drawn_patch(random, words="x"), drawn_patch(random, words="xy")
        if random.random() < 0.4:
            changes = sorted(set(other.changes) | set(one.changes[:1]))
            if all(first[1] < second[0] for first, second in zip(changes, changes[1:])):
                other = Patch(tuple(changes), max(other.least, one.least))
        clashes = [(first, second) for first, change in enumerate(one.changes) for second, more in enumerate(other.changes)
                   if change != more and (not (change[1] <= more[0] or more[1] <= change[0]) or
                                          (change[0] == change[1] == more[0] == more[1]))]
        told = together(one, other)
        self.assertEqual(bool(told), not clashes)
        if clashes:
            self.assertEqual(told, Clash(*clashes[0]))
        else:
            self.check_orders(one, other)
            self.check_carried(one, other, told)
        return bool(told)

    def check_carried(self, one, other, told):
        """Each order of the hands' edits, each carried behind those of the other hand, does what whole does."""
        if len(one) + len(other) > 4:
            return
        rows = [("one", edit) for edit in one.edits() if edit_as_change(edit) not in other.changes]
        rows += [("other", edit) for edit in other.edits()]
        words = ORIGINAL[:max(one.least, other.least)]
        for order in permutations(range(len(rows))):
            behind_ones, able = words, True
            made = []
            for number in order:
                edit = rows[number][1]
                for before in made:
                    edit = None if edit is None else carried(edit, before)
                able = able and edit is not None
                if able:
                    behind_ones = edit(behind_ones)
                    made.append(edit)
            if able and not same_places(rows):
                self.assertEqual(behind_ones, told.whole(words), (one.changes, other.changes, order))

    def test_equality(self):
        one, other = self.patches([(0, 1, ())], [])
        told = Together(one, other, other)
        self.assertEqual([told.whole, told.one, told.other, bool(told)], [one, other, other, True])
        self.assertEqual(told, Together(one, other, other))
        for more in (Together(other, other, other), Together(one, one, other), Together(one, other, one), Clash(1, 2), None):
            self.assertNotEqual(told, more)
        self.assertEqual(Clash(1, 2), Clash(1, 2))
        for more in (Clash(1, 1), Clash(2, 2), Clash(2, 1), told, (1, 2)):
            self.assertNotEqual(Clash(1, 2), more)


def edit_as_change(edit):
    return (edit.first, edit.last, edit.words)


def same_places(rows):
    """Whether an edit puts in at a place where another one begins or ends: there, an order of its own is told."""
    edits = [edit for _, edit in rows]
    return any(one is not other and one.first == one.last and one.first in (other.first, other.last)
               for one in edits for other in edits)


class AllTogether(TestCase):
    def test_none_and_one(self):
        self.assertEqual(all_together([]), Patch((), 0))
        one = Patch(((1, 2, ("x",)),), 7)
        self.assertEqual(all_together((one,)), one)

    def test_several(self):
        rows = [Patch(((0, 1, ("x",)),), 1), Patch(((1, 1, ("y",)),), 4), Patch(((1, 2, ()), (3, 4, ())), 4)]
        for order in permutations(rows):
            self.assertEqual(all_together(order), Patch(((0, 2, ("x", "y")), (3, 4, ())), 4))
        rows = [Patch(((0, 1, ("x",)),), 1), Patch(((1, 2, ("y",)),), 2), Patch(((0, 1, ("x",)),), 3)]
        self.assertEqual(all_together(rows), Patch(((0, 2, ("x", "y")),), 3))

    def test_the_first_clash(self):
        good, more = Patch(((0, 1, ("x",)),), 1), Patch(((3, 4, ()),), 4)
        bad, worse = Patch(((0, 1, ("y",)),), 1), Patch(((3, 4, ("z",)),), 4)
        self.assertEqual(all_together([good, more, bad]), (0, 2))
        self.assertEqual(all_together([good, more, worse, bad]), (1, 2))
        self.assertEqual(all_together([good, more, Patch((), 0), Patch(((0, 4, ()),), 4)]), (0, 3))
        self.assertEqual(all_together([good, bad, worse, more]), (0, 1))

    def test_drawn_ones(self):
        found = []
        for number in range(300):
            random = Random(number)
            rows = [drawn_patch(random, 9) for _ in range(random.randint(0, 4))]
            pairs = sorted(((second, first) for second in range(len(rows)) for first in range(second)
                            if not together(rows[first], rows[second])))
            told = all_together(rows)
            found.append(not pairs)
            if pairs:
                self.assertEqual(told, pairs[0][::-1])
            else:
                least = max([row.least for row in rows], default=0)
                for many in (least, least + 3):
                    words = ORIGINAL[:many] + ["zz"] * (many - len(ORIGINAL))
                    left, after = list(rows), words
                    while left:
                        after, left = left[0](after), [together(left[0], row).other for row in left[1:]]
                    self.assertEqual(told(words), after)
                self.assertEqual(told.least, least)
        self.assertGreater(found.count(True), 60)
        self.assertGreater(found.count(False), 60)


class Errors(TestCase):
    def test_changes(self):
        Patch(((0, 1, ()), (2, 2, ("x",))), 2)
        for changes in [((0, 0, ()),), ((1, 0, ("x",)),), ((-1, 0, ("x",)),), ((0, True, ()),), ((False, 1, ()),),
                        ((0, 1, ["x"]),), ((0, 1, ("any",)),), ((0, 1, ("?",)),), ((0, 1, "x"),), ((0, 1, (3,)),), ((0, 1),),
                        ([0, 1, ()],), ((0, 1, (), ()),), ((0, "1", ()),), ((0, 1.5, ()),), (None,), ("abc",), None, 3,
                        ((0, 1, ()), (1, 2, ())), ((0, 1, ()), (1, 1, ("x",))), ((2, 3, ()), (0, 1, ())),
                        ((0, 0, ("x",)), (0, 1, ())), ((0, 3, ()), (2, 5, ())), ((0, 1, ()), (0, 1, ())), {(0, 1, ()): 1}]:
            raised(BadEdit, Patch, changes, 99)

    def test_least_numbers(self):
        changes = ((0, 1, ()), (2, 4, ("x",)))
        for least in (3, 0, -1, True, None, "4", 4.5):
            raised(BadEdit, Patch, changes, least)
        for least in (4, 5, 999):
            self.assertEqual(Patch(changes, least).least, least)
        for least in (-1, True, False, None):
            raised(BadEdit, Patch, (), least)

    def test_edits(self):
        for edits in [None, 3, "x", {Edit: 1}, [None], [Edit(0, 0, []), (0, 1, ())], [Edit(0, 0, [])] * 61, Edit(0, 0, []),
                      Patch((), 0)]:
            raised(BadEdit, patch, edits)
        self.assertEqual(patch([Edit(0, 0, [])] * 60), Patch((), 0))

    def test_what_is_no_patch(self):
        good = Patch((), 0)
        for bad in (None, 3, (), [], Edit(0, 0, []), ((0, 1, ()),)):
            for one, other in ((good, bad), (bad, good), (bad, bad)):
                raised(BadEdit, behind, one, other)
                raised(BadEdit, together, one, other)
            raised(BadEdit, all_together, [good, bad])
            raised(BadEdit, all_together, (bad,))
        for bad in (None, 3, good, "x"):
            raised(BadEdit, all_together, bad)
        clash = [Patch(((0, 1, ("x",)),), 1), Patch(((0, 1, ("y",)),), 1), None]
        raised(BadEdit, all_together, clash)

    def test_what_is_given_is_not_changed_or_kept(self):
        edits = [Edit(0, 1, ["x"]), Edit(3, 3, ["y"])]
        told = patch(edits)
        edits.clear()
        self.assertEqual(told, patch([Edit(0, 1, ["x"]), Edit(3, 3, ["y"])]))
        told.edits().clear()
        self.assertEqual(len(told.edits()), 2)
        one = Patch((), 3)
        both = Together(one, one, one)
        one.changes, one.least = ((0, 1, ()),), 1
        self.assertEqual([both.whole, both.one, both.other], [Patch((), 3)] * 3)
        rows = [told, Patch((), 3)]
        all_together(rows)
        self.assertEqual([len(rows), rows[0]], [2, told])
