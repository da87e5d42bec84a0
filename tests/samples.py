"""Kinds to test with, and a second reckoning of what the document says of them.

Nothing here draws from the program: the reckoning goes byte by byte, so that a fault of the
program is not a fault of its tests as well.
"""
import random

LETTERS = "abcdefghijklmnopqrstuvwxyz"


def number(w, m):
    return ("number", w, m)


def row(kind, n):
    return ("row", kind, n)


def record(*kinds):
    return ("record", fields(*kinds))


def fields(*kinds):
    return [(LETTERS[k], kind) for k, kind in enumerate(kinds)]


def choice(*kinds):
    return ("choice", list(kinds))


WRAPS = [
    lambda kind: row(kind, 2),
    lambda kind: record(kind),
    lambda kind: record(kind, number(1, 1)),
    lambda kind: record(number(1, 1), kind, number(2, 2)),
    lambda kind: record(*([number(1, 1)] * 7 + [kind])),
    lambda kind: choice(kind),
    lambda kind: choice(kind, number(4, 4)),
    lambda kind: choice(*([number(1, 1)] * 5 + [kind])),
]


def wrapped(kind, wraps):
    for wrap in wraps:
        kind = wrap(kind)
    return kind


def next_multiple(value, m):
    while value % m != 0:
        value += 1
    return value


def reckoned(kind):
    """The room, the multiple and the set of all bytes that a number or a mark can fill."""
    if kind[0] == "number":
        return kind[1], kind[2], set(range(kind[1]))
    if kind[0] == "row":
        room, multiple, inner = reckoned(kind[1])
        step = next_multiple(room, multiple)
        return step * kind[2], multiple, {step * k + byte for k in range(kind[2]) for byte in inner}
    if kind[0] == "record":
        parts, begins = reckoned_fields(kind[1])
        multiple = max(part[1] for part in parts)
        room = next_multiple(begins[-1] + parts[-1][0], multiple)
        return room, multiple, {begin + byte for part, begin in zip(parts, begins) for byte in part[2]}
    parts = [reckoned(inner) for inner in kind[1]]
    multiple = max(part[1] for part in parts)
    begin = next_multiple(1, multiple)
    room = next_multiple(begin + max(part[0] for part in parts), multiple)
    return room, multiple, {0} | {begin + byte for part in parts for byte in part[2]}


def reckoned_fields(some):
    parts = [reckoned(kind) for name, kind in some]
    begins = []
    end = 0
    for part in parts:
        begins.append(next_multiple(end, part[1]))
        end = begins[-1] + part[0]
    return parts, begins


def reckoned_places(some):
    begins = reckoned_fields(some)[1]
    return [(name, begin) for (name, kind), begin in zip(some, begins)]


def reckoned_holes(kind):
    room, multiple, filled = reckoned(kind)
    idle = [byte not in filled for byte in range(room)] + [False]
    holes = []
    begin = None
    for byte, is_idle in enumerate(idle):
        if is_idle and begin is None:
            begin = byte
        if not is_idle and begin is not None:
            holes.append((begin, byte))
            begin = None
    return holes


def drawn_name(source):
    return "".join(source.choice(LETTERS) for k in range(source.randint(1, 8)))


def drawn_kind(source, depth):
    sort = source.choice(["number", "row", "record", "choice"])
    if depth == 1 or sort == "number":
        return number(source.randint(1, 8), source.choice([1, 2, 4, 8]))
    if sort == "row":
        return row(drawn_kind(source, depth - 1), source.choice([1, 2, 3, 5, 20]))
    if sort == "choice":
        return choice(*[drawn_kind(source, depth - 1) for k in range(source.randint(1, 6))])
    names = []
    while len(names) < source.randint(1, 8):
        name = drawn_name(source)
        if name not in names:
            names.append(name)
    return ("record", [(name, drawn_kind(source, depth - 1)) for name in names])


def drawn_kinds(how_many):
    """Kinds of a room of at most two thousand bytes, the same ones each time."""
    source = random.Random(20)
    kinds = []
    while len(kinds) < how_many:
        kind = drawn_kind(source, source.randint(1, 5))
        if reckoned(kind)[0] <= 2000:
            kinds.append(kind)
    return kinds
