"""Point [1] at all doors: nothing that is given is changed or kept, and what is returned is new and the same again."""

import inspect
import sys
from unittest import TestCase

from tests.samples import DAYS, base, days, record
from typingroom import (checking, counting, crossing, editors, edits, helping, holes, keeping, kinds, manyholes, meanings,
                        mending, moving, offering, patches, plans, rivals, rooms, roomtexts, talks, words)
from typingroom.edits import Edit
from typingroom.patches import Patch
from typingroom.words import split_text

DAY = base("day")
LEAN = "type a\ntype b below a\nname x: b\nfun f(u: a): a\nfun f(u: b): b\nname y: {p: {q: b}}\ngoal a\n"


def text(told):
    return lambda: split_text(told)


def edit(first, last, more):
    return lambda: Edit(first, last, split_text(more))


def value(thing):
    return lambda: thing


def lean():
    return roomtexts.read_room(LEAN)


def a_patch(*changes):
    return lambda: Patch(tuple(changes), 9)


def deeds():
    return [("ask", 5), ("edit", 3), ("ask", 5)]


def events():
    return [("ask", 1), Edit(1, 2, ["plan"]), ("ask", 0), ("drop", 0), Edit(0, 0, [])]


def parts():
    return {"at": base("time")}


WHOLE = "let k = meet(now); give meet(now).id;"
HOLED = ["give", "meet", "(", "?", ")", ";"]
DOORS = [
    (kinds.is_type, value(DAY)), (kinds.type_text, value(record(p=DAY))),
    (roomtexts.read_room, value(DAYS)), (roomtexts.write_room, days),
    (words.split_text, value("give x;")), (words.join_words, text("give x;")),
    (checking.is_right, days, text(WHOLE)), (offering.broken, days, text("give zz")),
    (offering.offers, days, text("give meet(")), (offering.offers, days, text("let")),
    (offering.completions, days, text("give"), value("m")), (offering.finish, days, text("give meet({")),
    (holes.hole, days, lambda: list(HOLED)), (holes.is_filling, days, lambda: list(HOLED), value(DAY)),
    (manyholes.holes, days, lambda: list(HOLED)), (manyholes.are_fillings, days, lambda: list(HOLED), value((DAY,))),
    (helping.meant, days, text("give meet(now, meet(")), (helping.own_types, days, text(WHOLE), value("k")),
    (counting.endings, days, text("give meet("), value(8)), (counting.ending, days, text("give meet("), value(5), value(1)),
    (counting.number_of, days, text("give meet("), text("plan.who);")),
    (edits.carried, edit(1, 2, "x"), edit(0, 0, "y")), (edits.shrunk, text("give x;"), text("give y;")),
    (edits.answers, days, text("give plan.")), (edits.stale, days, text("give now;"), edit(1, 2, "plan.at")),
    (rivals.judge_rooms, days, lean), (rivals.judge_rooms, lean, lean), (rivals.needless, lean), (rivals.lean_room, lean),
    (mending.mend, days, text("plan.whom.name)"), value(DAY)), (plans.plan, deeds, value(2)),
    (meanings.meanings, lean, text("give f(f(x));")), (meanings.judge_meanings, lean), (meanings.judge_meanings, days),
    (keeping.nodes, text(WHOLE)), (keeping.kept, text(WHOLE), edit(5, 6, "plan")),
    (keeping.anew, text(WHOLE), edit(5, 6, "plan")), (moving.unused, text(WHOLE)), (moving.put_in, text(WHOLE), value("k")),
    (moving.told_out, text(WHOLE), value(5), value(6), value("m")),
    (patches.patch, lambda: [Edit(0, 1, ["a"]), Edit(1, 1, ["b"])]),
    (patches.behind, a_patch((0, 1, ("a",))), a_patch((1, 2, ()))),
    (patches.together, a_patch((0, 1, ("a",))), a_patch((1, 2, ()))),
    (patches.together, a_patch((0, 1, ("a",))), a_patch((0, 2, ()))),
    (patches.all_together, lambda: [a_patch((0, 1, ("a",)))(), a_patch((1, 2, ()))()]),
]
EVIDENCE = [
    (offering.finish, (days, text("give meet(now"))), (rivals.judge_rooms, (lean, lean)), (rivals.judge_rooms, (days, lean)),
    (mending.mend, (days, text("plan.whom.name)"), value(DAY))), (plans.plan, (deeds, value(2))),
    (meanings.judge_meanings, (days,)), (meanings.judge_meanings, (lean,)),
]


def told(thing):
    """All that can be seen of a value, so that it can be compared with what it is later on."""
    if isinstance(thing, (list, tuple)):
        return [thing.__class__.__name__] + [told(part) for part in thing]
    if isinstance(thing, dict):
        return [thing.__class__.__name__] + sorted([told(key), told(thing[key])] for key in thing)
    if hasattr(thing, "__dict__"):
        return [thing.__class__.__name__] + [[name, told(part)] for name, part in sorted(vars(thing).items())]
    return repr(thing)


def spoil(thing):
    """Change all that can be changed in a value."""
    if isinstance(thing, (list, tuple)):
        for part in thing:
            spoil(part)
    elif isinstance(thing, dict):
        for part in thing.values():
            spoil(part)
    elif hasattr(thing, "__dict__"):
        for part in vars(thing).values():
            spoil(part)
    if isinstance(thing, (list, dict)):
        thing.clear()


class Doors(TestCase):
    def test_all_functions_of_the_interface_are_here(self):
        modules = (kinds, roomtexts, words, checking, offering, holes, manyholes, helping, counting, edits, rivals, mending,
                   plans, meanings, keeping, moving, patches)
        from tests.test_form import INTERFACE
        named = {name.__name__ for name, *_ in DOORS}
        for module in modules:
            short = module.__name__.rpartition(".")[2]
            functions = [name for name in INTERFACE[short] if name[0].islower()]
            self.assertEqual([name for name in functions if name not in named], [], short)

    def test_arguments_are_not_changed(self):
        for door, *makers in DOORS:
            given = [make() for make in makers]
            before = told(given)
            door(*given)
            self.assertEqual(told(given), before, door)

    def test_arguments_are_not_kept(self):
        for door, *makers in DOORS:
            given = [make() for make in makers]
            found = door(*given)
            before = told(found)
            spoil(given)
            self.assertEqual(told(found), before, door)

    def test_equal_arguments_give_equal_answers(self):
        for door, *makers in DOORS:
            first = door(*[make() for make in makers])
            self.assertEqual(door(*[make() for make in makers]), first, door)
            given = [make() for make in makers]
            self.assertEqual([door(*given), door(*given)], [first, first], door)

    def test_what_is_returned_is_new(self):
        for door, *makers in DOORS:
            given = [make() for make in makers]
            before = told(given)
            found = door(*given)
            expected = told(found)
            spoil(found)
            self.assertEqual(told(given), before, door)
            self.assertEqual(told(door(*given)), expected, door)

    def test_lists_of_words_can_be_tuples(self):
        for door, *makers in DOORS:
            first = door(*[make() for make in makers])
            given = [make() for make in makers]
            self.assertEqual(door(*[tuple(part) if isinstance(part, list) else part for part in given]), first, door)

    def test_dicts_in_any_order(self):
        for door, *makers in DOORS:
            first = door(*[make() for make in makers])
            given = [turned(make()) for make in makers]
            self.assertEqual(door(*given), first, door)


def turned(thing):
    """An equal room, of which all is given in another order, where the order does not matter."""
    if not isinstance(thing, rooms.Room):
        return thing
    order = [(one, other) for one in thing.above for other in thing.above[one]]
    found = rooms.Room(list(thing.above)[::-1], order[::-1], {name: thing.names[name] for name in list(thing.names)[::-1]},
                       {word: thing.functions[word] for word in list(thing.functions)[::-1]}, thing.goal)
    assert found == thing
    return found


class Evidence(TestCase):
    def test_shows_changes_nothing(self):
        for make, makers in EVIDENCE:
            given = [maker() for maker in makers]
            found = make(*given)
            before = told([given, found])
            self.assertIs(found.shows(*given), True, make)
            self.assertIs(found.shows(*[maker() for maker in makers]), True, make)
            self.assertEqual(told([given, found]), before, make)

    def test_attributes_may_be_given_as_tuples(self):
        for make, makers in EVIDENCE:
            given = [maker() for maker in makers]
            found = make(*given)
            attributes = vars(found)
            again = found.__class__(*[tuple(part) if isinstance(part, list) else part for part in attributes.values()])
            self.assertEqual(again, found, make)
            self.assertEqual(told(again), told(found), make)
            self.assertIs(again.shows(*given), True)
            spoil(attributes)
            self.assertIs(again.shows(*given), True)

    def test_attributes_may_be_changed(self):
        for make, makers in EVIDENCE:
            given = [maker() for maker in makers]
            found = make(*given)
            for name, part in list(vars(found).items()):
                if isinstance(part, list):
                    setattr(found, name, tuple(part))
                    self.assertIs(found.shows(*given), True, (make, name))
                    setattr(found, name, part + part[:1] if part else ["x"])
                    longer = found.shows(*given)
                    self.assertIn(longer, (True, False), (make, name))
                    setattr(found, name, [])
                    self.assertIn(found.shows(*given), (True, False), (make, name))
                elif isinstance(part, dict):
                    setattr(found, name, {})
                    self.assertIs(found.shows(*given), False, (make, name))
                    setattr(found, name, {key: part[key] - 10 ** 12 for key in part})
                    self.assertIn(found.shows(*given), (True, False))
                    setattr(found, name, {key: part[key] + 10 ** 12 for key in part})
                    self.assertIs(found.shows(*given), False, (make, name))
                else:
                    setattr(found, name, part - 1)
                    self.assertIs(found.shows(*given), False, (make, name))
                setattr(found, name, part)
            self.assertIs(found.shows(*given), True, make)

    def test_evidence_is_equal_if_class_and_attributes_are(self):
        found = [make(*[maker() for maker in makers]) for make, makers in EVIDENCE]
        again = [make(*[maker() for maker in makers]) for make, makers in EVIDENCE]
        for at, one in enumerate(found):
            for number, other in enumerate(again):
                self.assertIs(one == other, at == number)
                self.assertIs(one != other, at != number)


class Classes(TestCase):
    def test_what_is_given_is_copied(self):
        room, told_words, told_events, told_edits = days(), ["give", "plan"], events(), [Edit(0, 0, ["x"])]
        editor, talk = editors.Editor(room, told_words), talks.Talk(room, told_words)
        crossed = crossing.Crossing(room, told_words, told_events)
        patched = patches.patch(told_edits)
        for given in (told_words, told_events, told_edits):
            given.clear()
        spoil(room)
        self.assertEqual([list(editor), list(talk), len(crossed), patched.changes],
                         [["give", "plan"], ["give", "plan"], 2, ((0, 0, ("x",)),)])
        self.assertEqual([list(editor.each_offer()), talk.answer(talk.ask(1)), crossed.answer(0)],
                         [[offering.offers(days(), ["give", "plan"][:many]) for many in range(3)],
                          offering.offers(days(), ["give"]), offering.offers(days(), ["give"])])

    def test_rooms_copy_what_they_are_given(self):
        rows = [(("at", DAY),), ("day", "time"), {"x": DAY}, {"f": [((("u", DAY),), 1, DAY)]}]
        bases, order, names, functions = ["day", "time"], [("time", "day")], rows[2], rows[3]
        room = rooms.Room(bases, order, names, functions, DAY)
        before = told(room)
        spoil([bases, order, names, functions])
        self.assertEqual(told(room), before)
        self.assertTrue(room.is_below(base("time"), DAY))

    def test_methods_change_nothing(self):
        crossed = crossing.Crossing(days(), ["give", "plan"], events())
        patched, talk = Patch(((0, 1, ()),), 4), talks.Talk(days(), ["give"])
        talk.ask(1)
        before = told([crossed, patched])
        for _ in range(2):
            found = [crossed.answer(0), crossed.rights(0), crossed.soonest(0), crossed.always(), crossed.spare(),
                     list(crossed.each_time()), patched.edits(), list(patched), patched(["x"] * 4), talk.answer(0)]
            expected = told(found)
            spoil(found)
            found = [crossed.answer(0), crossed.rights(0), crossed.soonest(0), crossed.always(), crossed.spare(),
                     list(crossed.each_time()), patched.edits(), list(patched), patched(["x"] * 4), talk.answer(0)]
            self.assertEqual(told(found), expected)
        self.assertEqual(told([crossed, patched]), before)


class Depth(TestCase):
    """No door goes deeper into calls for deeper texts."""

    ROOM = ("type a\nname x: a\nfun f(u: a): a\nfun g(u: {p: a}): a\nfun h(u: a =, v: {p: a} =): {p: a}\ngoal a\n")
    CALLS = ["give"] + ["f", "("] * 65 + ["x"] + [")"] * 65 + [";"]
    BRACES = ["give"] + ["g", "(", "{", "p", ":"] * 27 + ["x"] + ["}", ")"] * 27 + [";"]

    def shallow(self, work, *given):
        """What a call returns, when it may only go so deep."""
        before = sys.getrecursionlimit()
        sys.setrecursionlimit(len(inspect.stack(0)) + 60)
        try:
            return work(*given)
        finally:
            sys.setrecursionlimit(before)

    def test_begun_texts(self):
        room = roomtexts.read_room(self.ROOM)
        for row in (["f", "("], ["g", "(", "{", "p", ":"], ["h", "(", "x", ","]):
            told = (["give"] + row * 99)[:1 + 198 // len(row) * len(row)]
            for door in (offering.offers, offering.broken, offering.finish, helping.meant, edits.answers):
                self.shallow(door, room, told)
            self.assertEqual(self.shallow(counting.endings, room, told, 9), [0] * 9)
            self.assertIsNone(self.shallow(counting.number_of, room, told, ["x"]))

    def test_whole_texts(self):
        room = roomtexts.read_room(self.ROOM)
        for told in (self.CALLS, self.BRACES):
            holed = ["?" if word == "x" else word for word in told]
            self.assertTrue(self.shallow(checking.is_right, room, told))
            self.assertEqual(self.shallow(holes.hole, room, holed), [base("a")])
            self.assertEqual(len(self.shallow(meanings.meanings, room, told)), 1)
            self.assertEqual(self.shallow(keeping.nodes, told)[0], ("give", 0, len(told)))
            self.assertEqual(self.shallow(moving.told_out, told, 1, len(told) - 1, "k")[-3:], ["give", "k", ";"])
            self.assertIsNone(self.shallow(edits.answers, room, told + ["x"])[-1])
            crossed = self.shallow(crossing.Crossing, room, told, [("ask", 150), Edit(0, 1, ["give"])])
            self.assertEqual(crossed.always(), [0])
