from itertools import chain, combinations
from random import Random
from unittest import TestCase

from tests.samples import raised
from typingroom.errors import BadNumber, BadPlan
from typingroom.plans import Plan, plan

DEEDS = [("ask", 5), ("edit", 3), ("ask", 5), ("ask", 2)]


def plain_ways(deed, kept, most):
    """The words that a deed takes, and all that can be kept behind it."""
    word, place = deed
    if word == "edit":
        return 0, {tuple(at for at in kept if at <= place)}
    start = max([at for at in kept if at <= place], default=0)
    able = sorted(set(kept) | set(range(start + 1, place + 1)))
    return place - start, set(chain.from_iterable(combinations(able, many) for many in range(most + 1)))


def plain_tables(deeds, most):
    """For each number of deeds, what can be kept then, and the least number of words of all ways on."""
    layers = [{()}]
    for deed in deeds:
        layers.append({row for kept in layers[-1] for row in plain_ways(deed, kept, most)[1]})
    tables = [dict.fromkeys(layers[-1], 0)]
    for deed, layer in reversed(list(zip(deeds, layers))):
        tables.insert(0, {})
        for kept in layer:
            number, rows = plain_ways(deed, kept, most)
            tables[0][kept] = number + min(tables[1][row] for row in rows)
    return tables


def plain_shows(deeds, most, told):
    """Point [17], word by word."""
    kept, number = (), 0
    if len(told.rows) != len(deeds):
        return False
    for deed, row in zip(deeds, told.rows):
        words, rows = plain_ways(deed, kept, most)
        if row not in rows:
            return False
        kept, number = row, number + words
    tables = plain_tables(deeds, most)
    keys = {(done, row) for done in range(len(deeds)) for row in tables[done]}
    if number != told.number or keys != set(told.table) or (deeds and told.table[0, ()] != number):
        return False
    for done, row in keys:
        words, rows = plain_ways(deeds[done], row, most)
        for further in rows:
            if told.table[done, row] > words + (0 if done + 1 == len(deeds) else told.table[done + 1, further]):
                return False
    return True


def drawn_deeds(random, many, last):
    return [(random.choice(["ask", "ask", "edit"]), random.randint(0, last)) for _ in range(random.randint(0, many))]


class Plans(TestCase):
    def test_against_a_plain_trial(self):
        for number in range(200):
            random = Random(number)
            deeds = drawn_deeds(random, 6, random.choice([3, 6, 12]))
            for most in range(4):
                self.check(deeds, most)

    def check(self, deeds, most, number=None):
        told = plan(deeds, most)
        tables = plain_tables(deeds, most)
        self.assertEqual(told.number, tables[0][()], (deeds, most))
        self.assertIn(number, (None, told.number))
        self.assertEqual(told.table, {(done, row): tables[done][row] for done in range(len(deeds)) for row in tables[done]})
        self.assertTrue(told.shows(deeds, most))
        self.assertTrue(plain_shows(deeds, most, told), (deeds, most))
        self.assertEqual(plan(tuple(deeds), most), told)
        self.assertEqual(len(told), len(deeds))
        return told

    def test_told_ones(self):
        self.assertEqual(self.check(DEEDS, 1, 8).rows[:3], [(2,), (2,), (2,)])
        self.check(DEEDS, 0, 12)
        self.check(DEEDS, 2, 7)
        self.check(DEEDS, 3, 7)
        self.check([], 3, 0)
        self.check([("ask", 0)] * 3, 1, 0)
        self.check([("ask", 4), ("ask", 4)], 0, 8)
        self.check([("ask", 4), ("ask", 4)], 1, 4)
        self.check([("edit", 0), ("edit", 12)], 1, 0)

    def test_edits_in_front_at_and_behind_kept_places(self):
        self.check([("ask", 4), ("edit", 3), ("ask", 4)], 1, 5)
        self.check([("ask", 4), ("edit", 4), ("ask", 4)], 1, 4)
        self.check([("ask", 4), ("edit", 5), ("ask", 4)], 1, 4)
        self.check([("ask", 4), ("edit", 0), ("ask", 4)], 3, 8)

    def test_kept_places_behind_the_one_asked_can_stay(self):
        self.check([("ask", 9), ("ask", 2), ("ask", 9)], 1, 11)
        self.check([("ask", 9), ("ask", 2), ("ask", 9), ("ask", 2)], 2, 9)
        self.check([("ask", 9), ("ask", 2), ("edit", 1), ("ask", 9), ("ask", 2)], 2, 17)

    def test_most_deeds(self):
        told = self.check([("ask", 12)] * 6 + [("edit", 6)] + [("ask", 12), ("ask", 3)] * 2 + [("ask", 12)], 3, 18)
        self.assertEqual(len(told), 12)


class Evidence(TestCase):
    def test_changed_ones(self):
        counts = [0, 0]
        for number in range(150):
            random = Random(number)
            deeds = drawn_deeds(random, 5, 5)
            most = random.randint(0, 3)
            for _ in range(6):
                told = plan(deeds, most)
                change_plan(random, told)
                found = told.shows(deeds, most)
                self.assertEqual(found, plain_shows(deeds, most, told), (deeds, most, told.rows, told.number, told.table))
                counts[found] += 1
        self.assertGreater(min(counts), 40)

    def test_told_changes(self):
        told = plan(DEEDS, 1)
        rows, number, table = told.rows, told.number, told.table
        self.assertTrue(Plan(tuple(rows), number, table).shows(DEEDS, 1))
        for other in [rows[:3], rows + [()], [], [(3,)] + rows[1:], rows[:3] + [(6,)], rows[:1] + [()] + rows[2:],
                      [(1, 2)] + rows[1:], [(0,)] + rows[1:], rows[:2] + [()] + rows[3:-1] + [(2,)]]:
            self.assertFalse(Plan(other, number, table).shows(DEEDS, 1), other)
        for other in (number + 1, number - 1, -number, 0):
            self.assertFalse(Plan(rows, other, table).shows(DEEDS, 1))
            self.assertFalse(Plan(rows, other, {**table, (0, ()): other}).shows(DEEDS, 1))
        for key in table:
            self.assertFalse(Plan(rows, number, {**table, key: table[key] + 1}).shows(DEEDS, 1), key)
            self.assertFalse(Plan(rows, number, {other: table[other] for other in table if other != key}).shows(DEEDS, 1))
            left = {other: table[other] for other in table if other != key}
            self.assertFalse(Plan(rows, number, {**left, (9, ()): 0}).shows(DEEDS, 1), key)
        for key in [(4, ()), (0, (1,)), (-1, ()), (1, (6,)), (2, (4,)), (1, (1, 2)), (9, ())]:
            self.assertFalse(Plan(rows, number, {**table, key: 0}).shows(DEEDS, 1), key)
        # What is least for a place need not be told: a lesser number shows as much, if none in front of it is above it.
        self.assertTrue(Plan(rows, number, {**table, (3, (1,)): table[3, (1,)] - 1}).shows(DEEDS, 1))
        self.assertFalse(Plan(rows, number, {**table, (1, (2,)): table[1, (2,)] - 1}).shows(DEEDS, 1))
        self.assertFalse(told.shows(DEEDS, 2))
        self.assertFalse(told.shows(DEEDS[:3], 1))
        self.assertFalse(told.shows([], 1))

    def test_no_deeds(self):
        self.assertEqual(plan([], 2), Plan([], 0, {}))
        self.assertTrue(Plan([], 0, {}).shows((), 0))
        for other in (Plan([()], 0, {}), Plan([], 1, {}), Plan([], 0, {(0, ()): 0})):
            self.assertFalse(other.shows([], 0))

    def test_equality_and_copies(self):
        rows, table = [()], {(0, ()): 1}
        told = Plan(rows, 1, table)
        rows.append(1)
        table[1, ()] = 0
        self.assertEqual([told.rows, told.number, told.table, len(told)], [[()], 1, {(0, ()): 1}, 1])
        self.assertEqual(told, Plan(((),), 1, {(0, ()): 1}))
        for other in (Plan([], 1, {(0, ()): 1}), Plan([()], 0, {(0, ()): 1}), Plan([()], 1, {})):
            self.assertNotEqual(told, other)
        self.assertNotEqual(told, ([()], 1, {(0, ()): 1}))
        told.rows = []
        self.assertEqual(len(told), 0)


class Errors(TestCase):
    def test_what_is_no_plan(self):
        bad = [None, "ask", 3, {("ask", 1): 1}, [("ask", 1)] * 13, [("ask", 13)], [("ask", -1)], [("ask", True)],
               [("edit", False)], [("look", 1)], [("ask",)], [("ask", 1, 1)], [["ask", 1]], ["ask"], [("ask", "1")], [None],
               [("edit", 13)], [("ask", 1), ("edit", None)], (("Ask", 1),), {("ask", 1)}]
        for deeds in bad:
            for most in (1, 4, None):
                raised(BadPlan, plan, deeds, most)
                raised(BadPlan, Plan([], 0, {}).shows, deeds, most)

    def test_what_is_no_number(self):
        for most in (4, -1, True, False, None, "1", (1,)):
            for deeds in ([], DEEDS):
                raised(BadNumber, plan, deeds, most)
                raised(BadNumber, Plan([], 0, {}).shows, deeds, most)

    def test_deeds_are_not_changed(self):
        deeds = list(DEEDS)
        told = plan(deeds, 1)
        self.assertEqual(deeds, DEEDS)
        told.rows.clear()
        told.table.clear()
        self.assertEqual(plan(deeds, 1).number, 8)


def change_plan(random, told):
    change = random.randrange(6)
    if change == 0 and told.rows:
        told.rows[random.randrange(len(told.rows))] = tuple(sorted(random.sample(range(6), random.randint(0, 2))))
    elif change == 1:
        told.number += random.choice([-1, 1])
    elif change == 2 and told.table:
        told.table[random.choice(sorted(told.table))] += random.choice([-1, 1])
    elif change == 3 and told.table:
        told.table.pop(random.choice(sorted(told.table)))
    elif change == 4:
        told.table[random.randint(0, 5), random.choice([(), (1,), (0,), (2, 3)])] = random.randint(-1, 6)
    elif change == 5 and told.table:
        for key in random.sample(sorted(told.table), min(len(told.table), 3)):
            told.table[key] -= random.randint(0, 2)
