"""Texts of rooms: reading and writing."""

from typingroom.errors import BadText
from typingroom.kinds import is_word, type_text
from typingroom.rooms import Room, checked_room
from typingroom.words import marks


class Draft:
    """What the lines read so far tell of a room."""

    def __init__(self):
        self.bases = []
        self.order = []
        self.names = {}
        self.functions = {}
        self.goal = None


class Cursor:
    """The words and signs of one line, read from left to right."""

    def __init__(self, line, text):
        self.line = line
        self.marks = marks(text.partition("#")[0])
        self.end = len(text) + 1
        self.at = 0

    def column_here(self):
        """The column of what comes, or behind the line."""
        return self.marks[self.at][0] if self.at < len(self.marks) else self.end

    def word_here(self):
        """What comes, None at the end."""
        return self.marks[self.at][1] if self.at < len(self.marks) else None

    def take(self, word):
        """Go over what has to come: this word or sign, or None, the end."""
        if self.word_here() != word:
            raise BadText(self.line, self.column_here())
        self.at += 1

    def take_if(self, word):
        """Go over this word or sign, if it comes, and tell whether it did."""
        if self.word_here() != word:
            return False
        self.at += 1
        return True

    def take_word(self, taken):
        """Go over a word that is none of those taken, and return it."""
        word = self.word_here()
        if not is_word(word) or word in taken:
            raise BadText(self.line, self.column_here())
        self.at += 1
        return word


def read_room(text):
    """The Room of a text."""
    if not isinstance(text, str):
        raise BadText(0, 0)
    lines = text.split("\n")
    draft = Draft()
    for number, line in enumerate(lines, start=1):
        read_line(draft, Cursor(number, line))
    if draft.goal is None:
        raise BadText(len(lines) + 1, 1)
    return Room(draft.bases, draft.order, draft.names, draft.functions, draft.goal)


def read_line(draft, cursor):
    """Read a line into a draft."""
    if cursor.take_if("type"):
        read_base(draft, cursor)
    elif cursor.take_if("name"):
        name = cursor.take_word(list(draft.names))
        cursor.take(":")
        draft.names[name] = read_kind(cursor)
    elif cursor.take_if("fun"):
        read_signature(draft, cursor)
    elif draft.goal is None and cursor.take_if("goal"):
        draft.goal = read_kind(cursor)
    cursor.take(None)


def read_base(draft, cursor):
    """Read a base type, and those that it is told to be below."""
    base = cursor.take_word(draft.bases)
    draft.bases.append(base)
    if cursor.take_if("below"):
        draft.order.append((base, cursor.take_word([])))
        while cursor.take_if(","):
            draft.order.append((base, cursor.take_word([])))


def read_signature(draft, cursor):
    """Read a signature of a function."""
    function = cursor.take_word([])
    cursor.take("(")
    parameters = []
    needed = 0
    going = not cursor.take_if(")")
    while going:
        word = cursor.take_word([other for other, _ in parameters])
        cursor.take(":")
        kind = read_kind(cursor)
        # Behind one that need not be given, none may need to be.
        if needed < len(parameters):
            cursor.take("=")
        elif not cursor.take_if("="):
            needed += 1
        parameters.append((word, kind))
        going = cursor.take_if(",")
        if not going:
            cursor.take(")")
    cursor.take(":")
    draft.functions.setdefault(function, []).append((parameters, needed, read_kind(cursor)))


def read_kind(cursor):
    """Read a type; without recursion, as a text may open more braces than a type can have."""
    opened = []
    fields = []
    while True:
        kind = begun_kind(cursor, opened, fields)
        while kind is not None:
            if not opened:
                return kind
            opened[-1][fields[-1]] = kind
            kind = None
            if cursor.take_if(","):
                fields[-1] = read_field(cursor, opened[-1])
            else:
                cursor.take("}")
                fields.pop()
                kind = record_type(opened.pop())


def begun_kind(cursor, opened, fields):
    """Read a type without a type in it, or the beginning of another one, up to its first field (then None)."""
    if not cursor.take_if("{"):
        return ("base", cursor.take_word([]))
    if cursor.take_if("}"):
        return record_type({})
    opened.append({})
    fields.append(read_field(cursor, {}))
    return None


def read_field(cursor, rows):
    """Read a field that the rows do not have, and its colon."""
    field = cursor.take_word(list(rows))
    cursor.take(":")
    return field


def record_type(rows):
    """The record type of a dict from fields to types."""
    return ("record", tuple([(field, rows[field]) for field in sorted(rows)]))


def write_room(room):
    """The text of a room."""
    checked_room(room)
    lines = [base_line(base, above) for base, above in room.above.items()]
    lines.extend(["name " + name + ": " + type_text(kind) for name, kind in room.names.items()])
    for function, signatures in room.functions.items():
        lines.extend([signature_line(function, signature) for signature in signatures])
    lines.append("goal " + type_text(room.goal))
    return "".join([line + "\n" for line in lines])


def base_line(base, above):
    """The line of a base type."""
    return "type " + base + (" below " + ", ".join(above) if above else "")


def signature_line(function, signature):
    """The line of a signature."""
    parameters, needed, result = signature
    parts = []
    for place, (word, kind) in enumerate(parameters):
        parts.append(word + ": " + type_text(kind) + (" =" if place >= needed else ""))
    return "fun " + function + "(" + ", ".join(parts) + "): " + type_text(result)
