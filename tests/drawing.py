"""Words and edits that tests draw, and answers found by asking for offers alone."""

from typingroom.edits import Edit
from typingroom.offering import broken, finish, offers


def own_answers(room, words):
    """The answers by offers and broken alone."""
    place = broken(room, words)
    alive = len(words) + 1 if place is None else place + 1
    if broken(room, []) is not None:
        alive = 0
    return [offers(room, words[:end]) for end in range(alive)] + [None] * (len(words) + 1 - alive)


def drawn_words(random, most, letters="abcd"):
    return [random.choice(letters) for _ in range(random.randint(0, most))]


def drawn_edit(random, many, words=("x", "y", "a", "b")):
    first, last = sorted([random.randint(0, many), random.randint(0, many)])
    return Edit(first, last, [random.choice(words) for _ in range(random.randint(0, 3))])


def drawn_text(random, room):
    """Words that are a right text, or a beginning of one, or are dead from somewhere on."""
    words = []
    if broken(room, []) is None:
        if random.random() < 0.5:
            words += ["let", "k"] + finish(room, ["let", "k"]).words
        while len(words) < 14:
            told = offers(room, words)
            likely = told.words + [word for word in ["m", "n", "o"] if told.but is not None and word in told]
            if not likely:
                break
            words.append(random.choice(likely))
    if random.random() < 0.3 and words:
        words[random.randrange(len(words))] = random.choice(["x", ";", ".", "give", "f"])
    return words
