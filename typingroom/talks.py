"""Talks: words, edits that are done on them, and questions about places, whose answers can come to be wrong."""

from typingroom.errors import BadNumber
from typingroom.kinds import is_within
from typingroom.offering import answer_by, answers_by, copied_answer, room_reader
from typingroom.words import checked_words


class Question:
    """The answer when it was asked, and the place now, None if it is gone."""

    def __init__(self, told, here):
        self.told = told
        self.here = here


class Talk:
    """Words for a room, edits on them, and questions about their places."""

    def __init__(self, room, words=()):
        self._words = checked_words(words)
        # The caller may change the room later on, and the reader does not hold on to it.
        self._reader = room_reader(room)
        self._questions = []

    def __len__(self):
        return len(self._questions)

    def __iter__(self):
        return iter(self._words)

    def edit(self, *edits):
        """Do edits; if one does not fit, those ahead of it stay done."""
        for edit in edits:
            self._words = edit(self._words)
            for question in self._questions:
                question.here = place_behind(question.here, edit)
        return self

    def ask(self, place=None):
        """Ask about a place, or behind the last word; the question's number."""
        here = len(self._words) if place is None else place
        if not is_within(here, 0, len(self._words)):
            raise BadNumber("not a place of the words")
        self._questions.append(Question(answer_by(self._reader, self._words[:here]), here))
        return len(self._questions) - 1

    def answer(self, number):
        """The answer of a question, at the words of the time when it was asked."""
        return copied_answer(self._question(number).told)

    def place(self, number):
        """The place of a question now, None if it is gone."""
        return self._question(number).here

    def is_right(self, number):
        """Whether the answer of a question is right now."""
        question = self._question(number)
        if question.here is None:
            return False
        return answer_by(self._reader, self._words[:question.here]) == question.told

    def each_right(self):
        """Give the numbers of the questions whose answers are right now."""
        found = answers_by(self._reader, self._words)
        questions = list(self._questions)
        for number, question in enumerate(questions):
            if question.here is not None and found[question.here] == question.told:
                yield number

    def _question(self, number):
        if not is_within(number, 0, len(self._questions) - 1):
            raise BadNumber("not a question")
        return self._questions[number]


def place_behind(place, edit):
    """Where a place is behind an edit, None if it is gone."""
    if place is None or place <= edit.first:
        return place
    return place + edit.growth() if place >= edit.last else None
