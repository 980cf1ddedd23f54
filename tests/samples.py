"""What several tests share."""

from typingroom.roomtexts import read_room

DAYS = ("type day\n"
        "type time below day\n"
        "name now: time\n"
        "name plan: {at: day, who: {name: day}}\n"
        "fun meet(when: time, note: day =): {id: time}\n"
        "fun meet(who: {name: day}): day\n"
        "goal day\n")

BAD_WORDS = [None, "give", 3, ["?"], ["any"], ["give", 3], [["give"]], ["give"] * 201, ["A"], [""], {"give": 1}]


def days():
    """The room of DOC.md's examples."""
    return read_room(DAYS)


def base(word):
    return ("base", word)


def record(**rows):
    return ("record", tuple((field, rows[field]) for field in sorted(rows)))


def nested(deep):
    """A type that is nested so deep."""
    kind = base("a")
    for _ in range(deep - 1):
        kind = record(f=kind)
    return kind


def raised(error, work, *given):
    """The error that a call raises, which has to be of just this class."""
    try:
        told = work(*given)
    except error as caught:
        assert caught.__class__ is error, caught.__class__
        return caught
    raise AssertionError(f"{told!r} was returned, and {error.__name__} not raised")
