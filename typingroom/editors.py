"""Editors: words that are typed in and edited, as long as they are taken, and can be tried out."""

from typingroom.edits import shrunk
from typingroom.offering import alive_state, offers_along, offers_at, room_reader
from typingroom.words import checked_words, join_words


class Saved:
    """The words that an editor goes back to when a trial ends."""

    def __init__(self, words):
        self.words = words


class Editor:
    """Words for a room; a strict one refuses words that are dead."""

    PLACES = 3

    def __init__(self, room, words=(), *, strict=False):
        told = checked_words(words)
        self.strict = strict
        # The caller may change the room later on, and the reader does not hold on to it.
        self._reader = room_reader(room)
        self._check_alive(told)
        # This list is never changed, but gives way to another one, so that it can be saved as it is.
        self._words = told
        self._saved = None

    @classmethod
    def careful(cls, room, *words):
        """A strict editor with these words."""
        return cls(room, words, strict=True)

    @staticmethod
    def gap(words, more):
        """The edit that leads from words to others, as shrunk."""
        return shrunk(words, more)

    def __len__(self):
        return len(self._words)

    def __iter__(self):
        return iter(self._words)

    def __contains__(self, word):
        return word in self._words

    def __call__(self, word):
        """Whether a word can stand next."""
        return word in offers_at(self._reader, alive_state(self._reader, self._words))

    def be_strict(self, strict=True):
        """Refuse from now on words that are dead, or no more."""
        self.strict = strict

    def type_in(self, *words):
        """Put words behind."""
        told = checked_words(self._words + list(words))
        if words:
            self._check_alive(told)
        self._words = told
        return self

    def edit(self, *edits):
        """Do edits."""
        behind = [self._words]
        for edit in edits:
            behind.append(checked_words(edit(behind[-1])))
        # Only now that all fit, as the errors of edits that do not are documented ahead of this one.
        for told in behind[1:]:
            self._check_alive(told)
        self._words = behind[-1]
        return self

    def _check_alive(self, words):
        """Refuse words that are dead, if the editor is strict."""
        if self.strict:
            alive_state(self._reader, words)

    def trial(self, work):
        """Call a function with the editor, and go back to the words that were there, or were kept, when it ends."""
        outer = self._saved
        saved = Saved(self._words)
        self._saved = saved
        try:
            return work(self)
        finally:
            self._words = saved.words
            self._saved = outer

    def keep(self):
        """Let the innermost trial at hand go back to the words of now."""
        saved = self._saved
        if saved is not None:
            saved.words = self._words

    def text(self, *, numbers=False):
        """The text of the words; with numbers, each line has the place of its first word in front."""
        text = join_words(self._words)
        if not numbers:
            return text
        starts = [0] + [place for place, word in enumerate(self._words, start=1) if word == ";"]
        lines = text.split("\n")[:-1]
        return "".join([str(start).rjust(self.PLACES) + "  " + line + "\n" for start, line in zip(starts, lines)])

    def each_offer(self):
        """Give what can stand in front of each word, and behind the last one, as long as words are not dead."""
        told = offers_along(self._reader, self._words)
        for found in told:
            yield found


def watcher(editor):
    """A function that tells the edit from the words at its last call, or at this one, to those now."""
    seen = list(editor)

    def news():
        nonlocal seen
        before = seen
        seen = list(editor)
        return shrunk(before, seen)

    return news
