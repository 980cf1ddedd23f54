"""How many lists of words end a give, by the states that words lead to.

Words that leave alike states behind have the same endings, so these are counted once.
"""

from typingroom.ends import frames_of
from typingroom.frames import Call, Statement
from typingroom.lengths import Lengths, mask_of
from typingroom.reading import Reader, State, likely_words, step


class Tally:
    """The states behind the words of a give, each with a number, and what can stand next at each."""

    def __init__(self, lore, state, most):
        self._reader = Reader(lore, {})
        self._lengths = Lengths(lore, state.lets, most)
        self._frames = {}
        self._frame_numbers = {None: 0}
        self._numbers = {}
        self._states = []
        self._masks = []
        self._nexts = {}
        frames = frames_of(state)
        for frame in frames:
            self._kept_frame(frame)
        # From the outside inwards, so that what is behind deep frames is not found by deep recursion.
        for frame in frames[:-1]:
            self._lengths.ends_in(frame)
        self.start = self._numbered(state)

    def nexts(self, number):
        """The list of pairs of a word or sign that can stand next, ascending, and the number of the state behind."""
        if number not in self._nexts:
            state = self._states[number]
            found = []
            for word in likely_words(self._reader, state):
                further = step(self._reader, state, word)
                if further is not None:
                    found.append((word, self._numbered(further)))
            self._nexts[number] = found
        return self._nexts[number]

    def _numbered(self, state):
        """The number that a state has, a new one if none that is alike has been met."""
        frame = self._kept_frame(state.frame)
        outer = self._frame_numbers[frame]
        key = (state.mode, outer, tuple(sorted(state.types)), tuple(sorted(state.fits)))
        if key not in self._numbers:
            self._numbers[key] = len(self._states)
            kept = State(state.mode, frame, state.lets, state.types, state.fits)
            self._states.append(kept)
            self._masks.append(mask_of(self._lengths, kept))
        return self._numbers[key]

    def _kept_frame(self, frame):
        """The frame that was met first of those that are alike; its outer one must have been met."""
        if frame in self._frame_numbers:
            return frame
        key = self._frame_key(frame)
        if key not in self._frames:
            self._frame_numbers[frame] = len(self._frame_numbers)
            self._frames[key] = frame
        return self._frames[key]

    def _frame_key(self, frame):
        # Own types of the expressions in a literal do not count in a give, where no literal has to fit any.
        outer = self._frame_numbers[frame.outer]
        if isinstance(frame, Statement):
            return ("give",)
        if isinstance(frame, Call):
            return ("call", outer, tuple(frame.signatures), frame.at)
        at = (len(frame.types), tuple(frame.fields[-1:]))
        return ("literal", outer, tuple(frame.choices), tuple(sorted(frame.fields)), at)

    def is_ending_in(self, number, left):
        """Whether some so many words end the give behind a state."""
        return self._masks[number] >> left & 1 == 1

    def counts(self, many):
        """For each number of words that are left, from 0 to so many, a dict from states to how many lists end there.

        It has the states that lists of so many words, that end the give behind the first state, lead to.
        """
        layers = [[self.start] if self.is_ending_in(self.start, many) else []]
        for left in range(many - 1, -1, -1):
            further = {}
            for number in layers[-1]:
                for _, other in self.nexts(number):
                    if self.is_ending_in(other, left):
                        further[other] = True
            layers.append(list(further))
        tables = [{number: 1 for number in layers.pop()}]
        for layer in reversed(layers):
            last = tables[-1]
            table = {}
            for number in layer:
                table[number] = sum([last.get(other, 0) for _, other in self.nexts(number)])
            tables.append(table)
        return tables
