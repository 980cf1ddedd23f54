"""The examples of DOC.md's interface, to the letter."""

from doctest import DocTestParser, DocTestRunner
from unittest import TestCase

ROOMTEXTS = r"""
>>> from typingroom.roomtexts import read_room, write_room
>>> room = read_room('type day\ntype time below day\nname now: time\nname plan: {at: day, who: {name: day}}\nfun meet(when: time, note: day =): {id: time}\nfun meet(who: {name: day}): day\ngoal day\n')
>>> [room.is_below(('base', 'time'), ('base', 'day')), 'meet' in room, write_room(room).split('\n')[1]]
[True, True, 'type time below day']
"""

OFFERING = r"""
>>> from typingroom.roomtexts import read_room
>>> from typingroom.offering import broken, completions, finish, offers
>>> room = read_room('type day\ntype time below day\nname now: time\nname plan: {at: day, who: {name: day}}\nfun meet(when: time, note: day =): {id: time}\nfun meet(who: {name: day}): day\ngoal day\n')
>>> told = offers(room, ['give', 'meet', '('])
>>> [told.words, told.but, 'zz' in offers(room, ['let']), completions(room, ['give'], 'm')]
[['meet', 'now', 'plan', '{'], None, True, ['meet']]
"""

FINISHING = r"""
>>> from typingroom.roomtexts import read_room
>>> from typingroom.offering import broken, finish
>>> room = read_room('type day\ntype time below day\nname now: time\nname plan: {at: day, who: {name: day}}\nfun meet(when: time, note: day =): {id: time}\nfun meet(who: {name: day}): day\ngoal day\n')
>>> found = finish(room, ['give', 'meet', '(', '{'])
>>> [found.words, len(finish(room, ['give', 'meet', '(', 'now'])), broken(room, ['give', 'plan', '.', 'at', '.'])]
[['name', ':', 'now', '}', ')', ';'], 4, 4]
"""


class Examples(TestCase):
    def run_example(self, text):
        example = DocTestParser().get_doctest(text, {}, self.id(), None, None)
        reports = []
        told = DocTestRunner().run(example, out=reports.append)
        self.assertEqual(told.failed, 0, "".join(reports))
        self.assertGreater(told.attempted, 2)

    def test_roomtexts(self):
        self.run_example(ROOMTEXTS)

    def test_offering(self):
        self.run_example(OFFERING)

    def test_finishing(self):
        self.run_example(FINISHING)
