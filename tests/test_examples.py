"""The examples of DOC.md's interface, to the letter."""

from doctest import DocTestParser, DocTestRunner
from unittest import TestCase

ROOMTEXTS = r"""
>>> from typingroom.roomtexts import read_room, write_room
>>> room = read_room('type day\ntype time below day\nname now: time\nname plan: {at: day, who: {name: day}}\nfun meet(when: time, note: day =): {id: time}\nfun meet(who: {name: day}): day\ngoal day\n')
>>> [room.is_below(('base', 'time'), ('base', 'day')), 'meet' in room, write_room(room).split('\n')[1]]
[True, True, 'type time below day']
"""

OFFERING = r"""
>>> from typingroom.roomtexts import read_room
>>> from typingroom.offering import broken, completions, finish, offers
>>> room = read_room('type day\ntype time below day\nname now: time\nname plan: {at: day, who: {name: day}}\nfun meet(when: time, note: day =): {id: time}\nfun meet(who: {name: day}): day\ngoal day\n')
>>> told = offers(room, ['give', 'meet', '('])
>>> [told.words, told.but, 'zz' in offers(room, ['let']), completions(room, ['give'], 'm')]
[['meet', 'now', 'plan', '{'], None, True, ['meet']]
"""

FINISHING = r"""
>>> from typingroom.roomtexts import read_room
>>> from typingroom.offering import broken, finish
>>> room = read_room('type day\ntype time below day\nname now: time\nname plan: {at: day, who: {name: day}}\nfun meet(when: time, note: day =): {id: time}\nfun meet(who: {name: day}): day\ngoal day\n')
>>> found = finish(room, ['give', 'meet', '(', '{'])
>>> [found.words, len(finish(room, ['give', 'meet', '(', 'now'])), broken(room, ['give', 'plan', '.', 'at', '.'])]
[['name', ':', 'now', '}', ')', ';'], 4, 4]
"""

HOLES = r"""
>>> from typingroom.holes import hole, is_filling
>>> from typingroom.roomtexts import read_room
>>> room = read_room('type day\ntype time below day\nname now: time\nname plan: {at: day, who: {name: day}}\nfun meet(when: time, note: day =): {id: time}\nfun meet(who: {name: day}): day\ngoal day\n')
>>> words = ['give', 'meet', '(', '?', '.', 'who', ')', ';']
>>> [hole(room, words), is_filling(room, words, room.names['plan'])]
[[('record', (('who', ('record', (('name', ('base', 'day')),))),))], True]
"""

HELPING = r"""
>>> from typingroom.helping import meant, own_types
>>> from typingroom.roomtexts import read_room
>>> from typingroom.words import split_text
>>> room = read_room('type day\ntype time below day\nname now: time\nname plan: {at: day, who: {name: day}}\nfun meet(when: time, note: day =): {id: time}\nfun meet(who: {name: day}): day\ngoal day\n')
>>> [meant(room, split_text('give meet ( now , meet (')), own_types(room, split_text('let k = meet ( now ) ; give k . id ;'), 'k')]
[[('meet', 1, (0,)), ('meet', 0, (0, 1))], [('record', (('id', ('base', 'time')),))]]
"""

COUNTING = r"""
>>> from typingroom.counting import ending, endings, number_of
>>> from typingroom.roomtexts import read_room
>>> room = read_room('type day\ntype time below day\nname now: time\nname plan: {at: day, who: {name: day}}\nfun meet(when: time, note: day =): {id: time}\nfun meet(who: {name: day}): day\ngoal day\n')
>>> words = ['give', 'meet', '(']
>>> [endings(room, words, 8), ending(room, words, 5, 1), number_of(room, words, ['now', ')', '.', 'id', ';'])]
[[0, 0, 0, 0, 2, 0, 2, 0], ['plan', '.', 'who', ')', ';'], 0]
"""

EDITS = r"""
>>> from typingroom.edits import Edit, carried, shrunk, stale
>>> from typingroom.roomtexts import read_room
>>> room = read_room('type day\ntype time below day\nname now: time\nname plan: {at: day, who: {name: day}}\nfun meet(when: time, note: day =): {id: time}\nfun meet(who: {name: day}): day\ngoal day\n')
>>> edit = Edit(1, 2, ['meet', '(', 'now', ')', '.', 'id'])
>>> [edit(['give', 'now', ';']), stale(room, ['give', 'now', ';'], edit), carried(Edit(2, 2, ['x']), edit) == Edit(7, 7, ['x']), edit.growth()]
[['give', 'meet', '(', 'now', ')', '.', 'id', ';'], [2, 3, 4, 5, 6], True, 5]
"""

EDITORS = r"""
>>> from typingroom.editors import Editor, watcher
>>> from typingroom.errors import Dead
>>> from typingroom.roomtexts import read_room
>>> room = read_room('type day\ntype time below day\nname now: time\nname plan: {at: day, who: {name: day}}\nfun meet(when: time, note: day =): {id: time}\nfun meet(who: {name: day}): day\ngoal day\n')
>>> editor = Editor.careful(room, 'give')
>>> news = watcher(editor)
>>> told = editor.type_in('plan', '.', 'at')
>>> [list(editor), editor(';'), news().words, editor.text(numbers=True)]
[['give', 'plan', '.', 'at'], True, ('plan', '.', 'at'), '  0  give plan . at\n']
"""

TALKS = r"""
>>> from typingroom.edits import Edit
>>> from typingroom.roomtexts import read_room
>>> from typingroom.talks import Talk
>>> room = read_room('type day\ntype time below day\nname now: time\nname plan: {at: day, who: {name: day}}\nfun meet(when: time, note: day =): {id: time}\nfun meet(who: {name: day}): day\ngoal day\n')
>>> talk = Talk(room, ['give', 'plan', '.', 'who'])
>>> numbers = [talk.ask(), talk.ask(1), talk.ask(2)]
>>> talk = talk.edit(Edit(0, 0, ['let', 'k', '=', 'now', ';']))
>>> [[talk.place(number) for number in numbers], list(talk.each_right()), talk.answer(0).words]
[[9, 6, 7], [0, 2], ['.']]
"""

MANYHOLES = r"""
>>> from typingroom.manyholes import are_fillings, holes
>>> from typingroom.roomtexts import read_room
>>> room = read_room('type a\ntype b\nfun f(v: a, w: b): b\nfun f(v: b, w: a): b\nname x: a\ngoal b\n')
>>> words = ['give', 'f', '(', '?', ',', '?', ')', ';']
>>> [holes(room, words), are_fillings(room, words, (('base', 'a'), ('base', 'a')))]
[[(('base', 'a'), ('base', 'b')), (('base', 'b'), ('base', 'a'))], False]
"""

RIVALS = r"""
>>> from typingroom.rivals import judge_rooms, lean_room, needless
>>> from typingroom.roomtexts import read_room, write_room
>>> one = read_room('type a\ntype b below a\nname x: b\nfun f(v: a): b\nfun f(v: b): b\ngoal a\n')
>>> other = read_room('type a\ntype b below a\nname x: b\nfun f(v: a): {p: b}\ngoal a\n')
>>> [judge_rooms(one, other).words, needless(one), len(write_room(lean_room(one)))]
[['give', 'f', '(', 'x', ')', ';'], [('f', 0), ('f', 1)], 54]
"""

MENDING = r"""
>>> from typingroom.mending import mend
>>> from typingroom.roomtexts import read_room
>>> room = read_room('type a\ntype b\nname x: {p: a}\nfun f(v: a): b\ngoal b\n')
>>> told = mend(room, ['f', 'x', '.', 'q', ')'], ('base', 'b'))
>>> [told.words, told.number]
[['f', '(', 'x', '.', 'p', ')'], 2]
"""

PLANS = r"""
>>> from typingroom.plans import plan
>>> told = plan([('ask', 5), ('edit', 3), ('ask', 5), ('ask', 2)], 1)
>>> [told.number, told.rows[0], len(told)]
[8, (2,), 4]
"""

MEANINGS = r"""
>>> from typingroom.meanings import judge_meanings, meanings
>>> from typingroom.roomtexts import read_room
>>> room = read_room('type a\ntype b below a\nname x: b\nfun f(v: a): a\nfun f(v: b): b\ngoal a\n')
>>> told = judge_meanings(room)
>>> [told.words, told.rows, meanings(room, ['give', 'f', '(', 'f', '(', 'x', ')', ')', ';'])]
[['give', 'f', '(', 'x', ')', ';'], [(0,), (1,)], [(0, 0), (0, 1), (1, 1)]]
"""

KEEPING = r"""
>>> from typingroom.edits import Edit
>>> from typingroom.keeping import anew, kept, nodes
>>> words = ['give', 'f', '(', 'x', ',', 'y', ')', ';']
>>> edit = Edit(3, 4, ['g', '(', ')'])
>>> [nodes(words), anew(words, edit), len(kept(words, edit))]
[[('give', 0, 8), ('call', 1, 7), ('name', 3, 4), ('name', 5, 6)], [('give', 0, 10), ('call', 1, 9), ('call', 3, 6)], 1]
"""

MOVING = r"""
>>> from typingroom.moving import put_in, told_out, unused
>>> words = ['give', 'f', '(', 'x', '.', 'p', ')', ';']
>>> told = told_out(words, 3, 6, 'k')
>>> [told, put_in(told, 'k') == words, unused(told)]
[['let', 'k', '=', 'x', '.', 'p', ';', 'give', 'f', '(', 'k', ')', ';'], True, []]
"""

PATCHES = r"""
>>> from typingroom.edits import Edit
>>> from typingroom.patches import patch, together
>>> one = patch([Edit(0, 1, ['a']), Edit(1, 1, ['b'])])
>>> other = patch([Edit(3, 5, []), Edit(2, 2, ['c'])])
>>> [one.changes, together(one, other).whole.changes, together(one, other).other.changes]
[((0, 1, ('a', 'b')),), ((0, 1, ('a', 'b')), (2, 2, ('c',)), (3, 5, ())), ((3, 3, ('c',)), (4, 6, ()))]
"""

CROSSING = r"""
>>> from typingroom.crossing import Crossing
>>> from typingroom.edits import Edit
>>> from typingroom.rooms import Room
>>> room = Room(['num'], [], {'x': ('base', 'num')}, {}, ('base', 'num'))
>>> told = Crossing(room, ['give', 'x', ';'], [('ask', 2), Edit(1, 2, ['z']), Edit(1, 2, ['x'])])
>>> [told.rights(0), told.always(), told.soonest(0)]
[[0, 2], [], 1]
"""


class Examples(TestCase):
    def run_example(self, text):
        example = DocTestParser().get_doctest(text, {}, self.id(), None, None)
        reports = []
        told = DocTestRunner().run(example, out=reports.append)
        self.assertEqual(told.failed, 0, "".join(reports))
        self.assertGreater(told.attempted, 2)

    def test_roomtexts(self):
        self.run_example(ROOMTEXTS)

    def test_offering(self):
        self.run_example(OFFERING)

    def test_finishing(self):
        self.run_example(FINISHING)

    def test_holes(self):
        self.run_example(HOLES)

    def test_helping(self):
        self.run_example(HELPING)

    def test_counting(self):
        self.run_example(COUNTING)

    def test_edits(self):
        self.run_example(EDITS)

    def test_editors(self):
        self.run_example(EDITORS)

    def test_talks(self):
        self.run_example(TALKS)

    def test_manyholes(self):
        self.run_example(MANYHOLES)

    def test_rivals(self):
        self.run_example(RIVALS)

    def test_mending(self):
        self.run_example(MENDING)

    def test_plans(self):
        self.run_example(PLANS)

    def test_meanings(self):
        self.run_example(MEANINGS)

    def test_keeping(self):
        self.run_example(KEEPING)

    def test_moving(self):
        self.run_example(MOVING)

    def test_patches(self):
        self.run_example(PATCHES)

    def test_crossing(self):
        self.run_example(CROSSING)
