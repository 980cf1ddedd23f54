"""What is still to be made, and of what: that with the fewest words comes first."""

from heapq import heappop, heappush


class Agenda:
    """What was made, by keys: `numbers` tells of how many words each is, and `parts` of which words and other keys."""

    def __init__(self):
        self.numbers = {}
        self.parts = {}
        self._waiting = []
        self._offered = []

    def offer(self, key, number, parts):
        """Tell that a key can be made of so many words, by these words and keys."""
        if key not in self.numbers:
            # Of as many words, that comes first which was offered first.
            heappush(self._waiting, (number, len(self._offered)))
            self._offered.append((key, parts))

    def take(self):
        """Make the key of the fewest words, and return it; None if none is left."""
        while self._waiting:
            number, place = heappop(self._waiting)
            key, parts = self._offered[place]
            if key not in self.numbers:
                self.numbers[key] = number
                self.parts[key] = parts
                return key
        return None

    def unfolded(self, key):
        """The list of the words that a key is made of, and of the keys, each ahead of what it is made of."""
        found = []
        waiting = [key]
        while waiting:
            part = waiting.pop()
            found.append(part)
            if not isinstance(part, str):
                waiting.extend(self.parts[part][::-1])
        return found

    def spelled(self, key):
        """The list of the words that a key is made of."""
        return [part for part in self.unfolded(key) if isinstance(part, str)]
