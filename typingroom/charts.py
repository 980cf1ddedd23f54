"""With how few changes stretches of words are made the parts of recipes, and what these are made of."""

from typingroom.recipes import all_stretches


class Chart:
    """Words, and the numbers of changes for each part of recipes and each stretch, None where there is none."""

    def __init__(self, recipes, words):
        many = len(words)
        self._recipes = recipes
        self._words = words
        self._numbers = [empty_square(many + 1) for _ in recipes.parts]
        self._begun = [empty_square(many + 1) for _ in recipes.rows]
        for (shape, told), numbers in zip(recipes.parts, self._numbers):
            if shape == "word":
                for first, last in all_stretches(many):
                    numbers[first][last] = changes_to_one(words[first:last], told)

    def put(self, shape, told, stretch, number):
        """Tell a number."""
        first, last = stretch
        self._numbers[self._recipes.place_of(shape, told)][first][last] = number

    def number_for(self, shape, told, stretch):
        """The number of changes for a part and a stretch."""
        first, last = stretch
        return self._numbers[self._recipes.place_of(shape, told)][first][last]

    def fill(self):
        """Find the least numbers."""
        for first, last in all_stretches(len(self._words)):
            self._begin(first, last, list(range(first, last + 1)))
            while self._lessen(first, last):
                # Only the numbers of this very stretch have become less.
                self._begin(first, last, [first, last])

    def is_undercut(self):
        """Whether there is a lesser number than one that is told."""
        for first, last in all_stretches(len(self._words)):
            self._begin(first, last, list(range(first, last + 1)))
            for place, row in self._recipes.ends:
                if is_less(self._begun[row][first][last], self._numbers[place][first][last]):
                    return True
        return False

    def _begin(self, first, last, middles):
        """Find lesser numbers of the rows for a stretch, by those of the parts, which begin at one of these places."""
        for row, ways in enumerate(self._recipes.rows):
            for before, place in ways:
                number = self._fewest(before, place, first, last, middles)
                if is_less(number, self._begun[row][first][last]):
                    self._begun[row][first][last] = number

    def _fewest(self, row, place, first, last, middles):
        """The least number for a row and a part behind it that begins at one of these places."""
        if row == 0:
            return self._numbers[place][first][last]
        begun = self._begun[row][first]
        ends = self._numbers[place]
        found = [begun[middle] + ends[middle][last] for middle in middles
                 if begun[middle] is not None and ends[middle][last] is not None]
        return min(found, default=None)

    def _lessen(self, first, last):
        """Take lesser numbers of rows for what they make, and tell whether there were any."""
        is_changed = False
        for place, row in self._recipes.ends:
            number = self._begun[row][first][last]
            if is_less(number, self._numbers[place][first][last]):
                self._numbers[place][first][last] = number
                is_changed = True
        return is_changed

    def expression(self, need):
        """The words of an expression that fits a need, made of all words by the least number of changes."""
        words = []
        waiting = [(self._recipes.place_of("expr", need), 0, len(self._words))]
        while waiting:
            place, first, last = waiting.pop()
            shape, told = self._recipes.parts[place]
            if shape == "word":
                words.append(told)
            else:
                waiting.extend(self._made_of(place, first, last))
        return words

    def _made_of(self, place, first, last):
        """The parts of which a part is made with the least number, with their stretches, the last one first."""
        least = self._numbers[place][first][last]
        ways = [row for made, row in self._recipes.ends if made == place and self._begun[row][first][last] == least]
        row = ways[0]
        found = []
        while row != 0:
            row, part, middle = self._last_part(row, first, last)
            found.append((part, middle, last))
            last = middle
        return found

    def _last_part(self, row, first, last):
        """The row without its last part, this part, and the place where it begins, for the least number."""
        least = self._begun[row][first][last]
        for before, place in self._recipes.rows[row]:
            if before == 0 and self._numbers[place][first][last] == least:
                return before, place, first
            for middle in range(first, last + 1):
                begun = self._begun[before][first][middle]
                number = self._numbers[place][middle][last]
                if before != 0 and begun is not None and number is not None and begun + number == least:
                    return before, place, middle
        return 0, 0, first


def empty_square(many):
    """So many lists of so many None."""
    return [[None] * many for _ in range(many)]


def changes_to_one(words, word):
    """With how few changes some words are made one word."""
    return len(words) - 1 if word in words else max(len(words), 1)


def is_less(number, other):
    """Whether there is a number, and it is less than another one, or than there is none."""
    return number is not None and (other is None or number < other)


def changes_between(words, more):
    """With how few changes words are made others."""
    row = list(range(len(more) + 1))
    for place, word in enumerate(words, start=1):
        before = row
        row = [place]
        for at, other in enumerate(more):
            row.append(min(before[at + 1] + 1, row[at] + 1, before[at] + (0 if word == other else 1)))
    return row[-1]
