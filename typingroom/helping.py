"""What helps while a text is typed: the calls at hand, and the own types of names."""

from typingroom.checking import plain_reader
from typingroom.ends import fewest_to_end, framed, frames_of
from typingroom.frames import Call
from typingroom.kinds import is_word
from typingroom.offering import alive_state, room_reader
from typingroom.trees import give_nodes, read_lets
from typingroom.words import checked_words


def meant(room, words):
    """For each call at hand, from the outside inwards: its function, the arguments in front, and its signatures."""
    told = checked_words(words)
    reader = room_reader(room)
    state = alive_state(reader, told)
    frames = frames_of(state)
    found = []
    for place, frame in enumerate(frames):
        if isinstance(frame, Call):
            found.append((frame.word, frame.at, signatures_left(reader, state, frames, place)))
    return found


def signatures_left(reader, state, frames, place):
    """The ascending tuple of the numbers of the signatures that the call at a place of the frames can still have."""
    frame = frames[place]
    found = []
    for number, row in enumerate(reader.lore.functions[frame.word]):
        if row in frame.signatures:
            alone = Call(frame.outer, frame.word, [row], frame.at)
            other = framed(reader, state, frame.outer, [alone] + frames[place + 1:])
            if fewest_to_end(reader, other) is not None:
                found.append(number)
    return tuple(found)


def own_types(room, words, name):
    """The ascending list of the own types of a name of a whole text with right lets."""
    told = checked_words(words)
    reader = plain_reader(room)
    lets, place = read_lets(reader, told)
    # Read for the error alone: the give has to be whole, but may be wrong.
    give_nodes(told, place)
    names = {**reader.lore.names, **lets}
    numbers = names[name] if is_word(name) and name in names else []
    return sorted([reader.lore.kinds[number] for number in numbers])
