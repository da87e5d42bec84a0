"""The one writing of each kind, value and list of bytes, and what is read from it."""

from laidfields.errors import NoText
from laidfields.kinds import DEEPEST, SMALL_LETTERS, is_kind
from laidfields.values import are_bytes, is_value

FIGURES = "0123456789"
BYTE_SIGNS = "0123456789abcdef"
NO_BYTES_AT_ALL = "-"
COMMA = ", "
# All numbers of kinds have at most two figures, a mark, being a byte, has at most three.
FIGURES_OF_A_KIND = 2
FIGURES_OF_A_BYTE = 3


def show_kind(kind):
    if kind[0] == "number":
        return "n" + str(kind[1]) + "/" + str(kind[2])
    if kind[0] == "row":
        return show_kind(kind[1]) + "*" + str(kind[2])
    if kind[0] == "record":
        return "{" + COMMA.join([field[0] + " " + show_kind(field[1]) for field in kind[1]]) + "}"
    return "<" + COMMA.join([show_kind(inner) for inner in kind[1]]) + ">"


def show_value(kind, thing):
    if not is_value(kind, thing):
        raise NoText("what is no value of the kind has no writing")
    return shown_value(kind, thing)


def shown_value(kind, value):
    if kind[0] == "number":
        return str(value)
    if kind[0] == "row":
        return "[" + COMMA.join([shown_value(kind[1], each) for each in value]) + "]"
    if kind[0] == "record":
        return "{" + COMMA.join([field[0] + " " + shown_value(field[1], value[field[0]]) for field in kind[1]]) + "}"
    return str(value[0]) + ":" + shown_value(kind[1][value[0]], value[1])


def show_bytes(thing):
    if not isinstance(thing, list) or not are_bytes(thing, len(thing)):
        raise NoText("what is no list of bytes has no writing")
    if len(thing) == 0:
        return NO_BYTES_AT_ALL
    return " ".join([BYTE_SIGNS[byte // 16] + BYTE_SIGNS[byte % 16] for byte in thing])


def read_kind(text):
    reader = Reader(text)
    kind = taken_kind(reader, DEEPEST)
    reader.take_end()
    # The reader sees the forms only, not the bounds, nor whether names are unlike.
    if not is_kind(kind):
        raise NoText("a number, a name, a length or the depth is none of a kind")
    return kind


def read_value(kind, text):
    reader = Reader(text)
    value = taken_value(reader, kind)
    reader.take_end()
    return value


def read_some_fields(fields, text):
    reader = Reader(text)
    value = taken_some_fields(reader, fields)
    reader.take_end()
    return value


def read_bytes(text):
    if not isinstance(text, str):
        raise NoText("this is no text")
    if text == NO_BYTES_AT_ALL:
        return []
    return [read_byte(signs) for signs in text.split(" ")]


def read_byte(signs):
    if len(signs) != 2 or not all([sign in BYTE_SIGNS for sign in signs]):
        raise NoText("a byte is not written with two signs")
    return BYTE_SIGNS.index(signs[0]) * 16 + BYTE_SIGNS.index(signs[1])


# Whether a text is a number's figures: the first is no 0 of several.
def are_figures(text):
    if text == "" or not all([sign in FIGURES for sign in text]):
        return False
    return len(text) == 1 or text[0] != "0"


class Reader:
    def __init__(self, text):
        if not isinstance(text, str):
            raise NoText("this is no text")
        self.text = text
        self.place = 0

    def passes(self, signs):
        if not self.text.startswith(signs, self.place):
            return False
        self.place = self.place + len(signs)
        return True

    def take(self, signs):
        if not self.passes(signs):
            raise NoText("other signs stand where some must")

    def take_end(self):
        if self.place < len(self.text):
            raise NoText("signs are left behind the end")

    def take_run(self, signs):
        begin = self.place
        while self.place < len(self.text) and self.text[self.place] in signs:
            self.place = self.place + 1
        return self.text[begin:self.place]

    def take_number(self, most_figures):
        figures = self.take_run(FIGURES)
        # Figures too many are not reckoned: Python itself refuses some thousands of them.
        if not are_figures(figures) or len(figures) > most_figures:
            raise NoText("figures are missing, too many, or begin with a 0")
        return int(figures)


def taken_kind(reader, depth):
    # The depth that is left ends the walk, however many brackets are opened.
    if depth < 1:
        raise NoText("a kind is too deep")
    kind = taken_inner_kind(reader, depth)
    while reader.passes("*"):
        kind = ("row", kind, reader.take_number(FIGURES_OF_A_KIND))
    return kind


def taken_inner_kind(reader, depth):
    if reader.passes("{"):
        return ("record", taken_fields(reader, depth - 1))
    if reader.passes("<"):
        return ("choice", taken_kinds(reader, depth - 1))
    reader.take("n")
    w = reader.take_number(FIGURES_OF_A_KIND)
    reader.take("/")
    return ("number", w, reader.take_number(FIGURES_OF_A_KIND))


def taken_fields(reader, depth):
    fields = [taken_field(reader, depth)]
    while reader.passes(COMMA):
        fields.append(taken_field(reader, depth))
    reader.take("}")
    return fields


def taken_field(reader, depth):
    name = reader.take_run(SMALL_LETTERS)
    reader.take(" ")
    return (name, taken_kind(reader, depth))


def taken_kinds(reader, depth):
    kinds = [taken_kind(reader, depth)]
    while reader.passes(COMMA):
        kinds.append(taken_kind(reader, depth))
    reader.take(">")
    return kinds


def taken_value(reader, kind):
    if kind[0] == "number":
        return taken_number(reader, kind)
    if kind[0] == "row":
        return taken_row(reader, kind[1], kind[2])
    if kind[0] == "record":
        return taken_record(reader, kind[1])
    return taken_choice(reader, kind[1])


def taken_number(reader, kind):
    # A byte more makes a number less than a thousand times as great: three figures more are enough.
    number = reader.take_number(FIGURES_OF_A_BYTE * kind[1])
    if not is_value(kind, number):
        raise NoText("a number is too great for its kind")
    return number


def taken_row(reader, kind, n):
    reader.take("[")
    values = []
    for k in range(n):
        if k > 0:
            reader.take(COMMA)
        values.append(taken_value(reader, kind))
    reader.take("]")
    return values


def taken_record(reader, fields):
    value = taken_some_fields(reader, fields)
    if len(value) < len(fields):
        raise NoText("a field is left out")
    return value


def taken_some_fields(reader, fields):
    reader.take("{")
    value = {}
    for field in fields:
        ahead = COMMA if len(value) > 0 else ""
        if reader.passes(ahead + field[0] + " "):
            value[field[0]] = taken_value(reader, field[1])
    reader.take("}")
    return value


def taken_choice(reader, kinds):
    mark = reader.take_number(FIGURES_OF_A_BYTE)
    if mark >= len(kinds):
        raise NoText("a mark stands for no kind of its choice")
    reader.take(":")
    return (mark, taken_value(reader, kinds[mark]))
