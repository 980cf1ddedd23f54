"""What is offered, and how statements are ended, against a plain search in small rooms."""

from random import Random
from unittest import TestCase

from tests.plain import is_right, random_parts, random_type, right_texts, room_of
from typingroom.checking import is_right as is_told_right
from typingroom.offering import broken, finish, offers

MOST = 11
TRIED = ["=", ";", "(", ")", "{", "}", ",", ":", ".", "let", "give", "x", "y", "f", "g", "k", "p", "q"]


def beginnings(texts):
    """Of all beginnings of texts: what stands behind them, and the fewest words seen that end the statement."""
    found = {}
    for words in texts:
        stops = [place for place, word in enumerate(words) if word == ";"]
        for end in range(len(words)):
            nexts, fewest = found.setdefault(tuple(words[:end]), (set(), []))
            nexts.add(words[end])
            if words[end] != "let":
                fewest.append(min(stop for stop in stops if stop >= end) + 1 - end)
    return found


class SmallRooms(TestCase):
    def test_against_all_right_texts_that_are_short(self):
        counts = [self.compare(number) for number in range(120)]
        self.assertGreater(sum(counts), 1000)
        self.assertGreater(sum(count == 0 for count in counts), 5)

    def compare(self, number):
        parts, fields = random_parts(number)
        room = room_of(parts)
        texts = right_texts(parts, fields, ["k"], MOST)
        found = sorted(beginnings(texts).items())
        if not found:
            self.check_empty(parts, room)
        for words, (nexts, fewest) in Random(number).sample(found, min(len(found), 40)):
            words = list(words)
            self.check_offers(parts, room, words, nexts)
            ending = finish(room, words)
            self.assertTrue(ending.shows(room, words), (parts, words))
            if fewest:
                self.assertLessEqual(len(ending), min(fewest), (parts, words))
            if "give" in words:
                # All shorter ends would have been found.
                self.assertEqual(len(ending), min(fewest), (parts, words))
        return len(texts)

    def check_empty(self, parts, room):
        if broken(room, []) is None:
            words = finish(room, []).words
            self.assertGreater(len(words), MOST)
            self.assertTrue(is_right(parts, words), (parts, words))
        else:
            self.assertEqual(broken(room, []), 0)

    def check_offers(self, parts, room, words, nexts):
        """All that stands behind them is offered; what is offered leads to a right text; all else is dead."""
        told = offers(room, words)
        self.assertEqual([word for word in nexts if word not in told], [], (parts, words))
        self.assertIs(broken(room, words), None)
        for word in sorted(set(told.words + TRIED)):
            self.assertIs(broken(room, words + [word]), None if word in told else len(words), (parts, words, word))
            if word in told:
                self.assertTrue(is_right(parts, led_on(room, words + [word])), (parts, words, word))


def led_on(room, words):
    """A text that begins with the words, made by ending its statements."""
    while not is_told_right(room, words):
        words = words + finish(room, words).words
    return words


class LargerRooms(TestCase):
    def test_walks_along_what_is_offered(self):
        for number in range(30):
            self.walk(number)

    def walk(self, number):
        random = Random(number)
        parts = larger_parts(random)
        room = room_of(parts)
        words = []
        while broken(room, []) is None and len(words) < 40 and not is_right(parts, words):
            told = offers(room, words)
            tried = told.words + [word for word in ["k", "l", "m", "p", "x"] if told.but is not None and word in told]
            for word in tried:
                ending = led_on(room, words + [word])
                self.assertTrue(is_right(parts, ending), (parts, words, word))
            words = words + [random.choice(tried)]


def larger_parts(random):
    bases = ["a", "b", "c", "d"]
    pairs = [(one, other) for one in bases for other in bases if one < other]
    fields = ["p", "q", "r"]
    names = {word: random_type(random, bases, fields, 4) for word in ["w", "x", "y", "z"]}
    functions = {}
    for word in ["f", "g", "h", "i"]:
        rows = []
        for _ in range(random.randint(1, 4)):
            many = random.choice([0, 1, 1, 2, 3])
            parameters = [(other, random_type(random, bases, fields, 2)) for other in ["s", "u", "v"][:many]]
            rows.append((parameters, random.randint(0, many), random_type(random, bases, fields, 4)))
        functions[word] = rows
    return {"bases": bases, "order": random.sample(pairs, 3), "names": names, "functions": functions,
            "goal": random_type(random, bases, fields, 3)}
