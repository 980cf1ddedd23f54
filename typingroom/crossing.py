"""Questions and edits that cross each other: when an answer can come, and whether it is right then."""

from typingroom.edits import Edit
from typingroom.errors import BadNumber
from typingroom.kinds import is_within
from typingroom.offering import answers_at, copied_answer, room_reader
from typingroom.talks import place_behind
from typingroom.words import checked_words

MOST_EVENTS = 60


class Crossed:
    """A question, between its own number of edits and its last one.

    The places are those that it has from its own number of edits on, None where it is gone; `right` has the numbers of
    edits behind which its answer is right.
    """

    def __init__(self, place, own):
        self.places = [place]
        self.own = own
        self.last = None
        self.told = None
        self.right = []

    def place_at(self, many):
        """Its place behind so many edits, None if it is gone, or not asked yet."""
        return self.places[many - self.own] if many >= self.own else None

    def can_come(self, many):
        """Whether its answer can come behind so many edits."""
        return self.own <= many <= self.last

    def is_spared_by(self, other):
        """Whether the answer of a question that was asked earlier does as well."""
        if other.place_at(self.own) != self.places[0] or other.told != self.told:
            return False
        return other.last >= self.last


class Crossing:
    """Words for a room, and edits and questions, one behind the other."""

    def __init__(self, room, words, events):
        self._texts = [checked_words(words)]
        self._edits = []
        self._questions = []
        if not isinstance(events, (list, tuple)) or len(events) > MOST_EVENTS:
            raise BadNumber("not a list of at most 60 events")
        for event in events:
            self._take(event)
        for question in self._questions:
            self._end(question)
        self._judge(room_reader(room))

    def __len__(self):
        return len(self._questions)

    def _take(self, event):
        """Let an event happen."""
        if isinstance(event, Edit):
            self._texts.append(event(self._texts[-1]))
            self._edits.append(event)
        elif not isinstance(event, tuple) or len(event) != 2 or event[0] not in ("ask", "drop"):
            raise BadNumber("not an event")
        elif event[0] == "ask":
            if not is_within(event[1], 0, len(self._texts[-1])):
                raise BadNumber("not a place of the words")
            self._questions.append(Crossed(event[1], len(self._edits)))
        else:
            question = self._question(event[1])
            if question.last is not None:
                raise BadNumber("the question was dropped before")
            question.last = len(self._edits)

    def _end(self, question):
        """Find the places of a question, and its last number of edits, if it was not dropped."""
        for edit in self._edits[question.own:]:
            question.places.append(place_behind(question.places[-1], edit))
        if question.last is None:
            question.last = len(self._edits)

    def _judge(self, reader):
        """Find the answers, and where they are right."""
        for many, words in enumerate(self._texts):
            found = answers_at(reader, words, [question.place_at(many) for question in self._questions])
            for question in self._questions:
                place = question.place_at(many)
                if question.own == many:
                    question.told = found[place]
                if place is not None and found[place] == question.told:
                    question.right.append(many)

    def answer(self, number):
        """The answer of a question."""
        return copied_answer(self._question(number).told)

    def rights(self, number):
        """The list of the numbers of edits behind which the answer of a question is right."""
        return list(self._question(number).right)

    def soonest(self, number):
        """The least number of edits behind which the answer can come and is wrong, None if there is none."""
        question = self._question(number)
        wrong = [many for many in range(question.own, question.last + 1) if many not in question.right]
        return min(wrong, default=None)

    def always(self):
        """The list of the questions whose answers are right whenever they can come."""
        return [number for number in range(len(self._questions)) if self.soonest(number) is None]

    def spare(self):
        """The list of the questions that need not be asked."""
        found = []
        needed = []
        for number, question in enumerate(self._questions):
            if any([question.is_spared_by(other) for other in needed]):
                found.append(number)
            else:
                needed.append(question)
        return found

    def each_time(self):
        """Give each number of edits, the questions whose answers can come then, and those that are right then."""
        questions = list(enumerate(self._questions))
        for many in range(len(self._texts)):
            able = [number for number, question in questions if question.can_come(many)]
            right = [number for number, question in questions if question.can_come(many) and many in question.right]
            yield many, able, right

    def _question(self, number):
        if not is_within(number, 0, len(self._questions) - 1):
            raise BadNumber("not a question")
        return self._questions[number]
