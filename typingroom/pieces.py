"""What any words become by edits, told by pieces.

A piece is a triple: the stretch of the words that is kept, from a place to another one, None for the end of the words,
and no words; or None, None, and the words that are put in.
"""


def uncut():
    """The pieces of any words that nothing is done to."""
    return [(0, None, ())]


def pieces_of(changes):
    """The pieces that changes, ascending and apart, leave."""
    pieces = []
    at = 0
    for first, last, words in changes:
        pieces.append((at, first, ()))
        pieces.append((None, None, words))
        at = last
    return pieces + [(at, None, ())]


def edited(pieces, first, last, words):
    """The pieces behind an edit."""
    front, rest = cut(pieces, first)
    _, back = cut(rest, last - first)
    return front + [(None, None, tuple(words))] + back


def cut(pieces, place):
    """The pieces up to a place of the words that they are, and those from it on."""
    front = []
    left = place
    for number, piece in enumerate(pieces):
        first, last, words = piece
        if first is None and len(words) > left:
            return front + [(None, None, words[:left])], [(None, None, words[left:])] + pieces[number + 1:]
        if first is not None and (last is None or last - first > left):
            return front + [(first, first + left, ())], [(first + left, last, ())] + pieces[number + 1:]
        front.append(piece)
        left -= len(words) if first is None else last - first
    return front, []


def changes_of(pieces):
    """The changes, ascending and apart, that leave such pieces."""
    changes = []
    at = 0
    words = ()
    for first, last, more in pieces:
        words = words + more
        if first is not None and first != last:
            if at < first or words:
                changes.append((at, first, words))
            at = last
            words = ()
    return tuple(changes)
