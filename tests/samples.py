"""Things to test with, and a second reckoning of what the document says of them.

Nothing here imports the program: the reckoning goes byte by byte, or through all that there is,
so that a fault of the program is not a fault of its tests as well.
"""
import itertools
import random

LETTERS = "abcdefghijklmnopqrstuvwxyz"


def number(w, m):
    return ("number", w, m)


def row(kind, n):
    return ("row", kind, n)


def record(*kinds):
    return ("record", fields(*kinds))


def fields(*kinds):
    return [(LETTERS[k], kind) for k, kind in enumerate(kinds)]


def choice(*kinds):
    return ("choice", list(kinds))


WRAPS = [
    lambda kind: row(kind, 2),
    lambda kind: record(kind),
    lambda kind: record(kind, number(1, 1)),
    lambda kind: record(number(1, 1), kind, number(2, 2)),
    lambda kind: record(*([number(1, 1)] * 7 + [kind])),
    lambda kind: choice(kind),
    lambda kind: choice(kind, number(4, 4)),
    lambda kind: choice(*([number(1, 1)] * 5 + [kind])),
]


def wrapped(kind, wraps):
    for wrap in wraps:
        kind = wrap(kind)
    return kind


def next_multiple(value, m):
    while value % m != 0:
        value += 1
    return value


def reckoned(kind):
    """The room, the multiple and the set of all bytes that a number or a mark can fill."""
    if kind[0] == "number":
        return kind[1], kind[2], set(range(kind[1]))
    if kind[0] == "row":
        room, multiple, inner = reckoned(kind[1])
        step = next_multiple(room, multiple)
        return step * kind[2], multiple, {step * k + byte for k in range(kind[2]) for byte in inner}
    if kind[0] == "record":
        parts, begins = reckoned_fields(kind[1])
        multiple = max(part[1] for part in parts)
        room = next_multiple(begins[-1] + parts[-1][0], multiple)
        return room, multiple, {begin + byte for part, begin in zip(parts, begins) for byte in part[2]}
    parts = [reckoned(inner) for inner in kind[1]]
    multiple = max(part[1] for part in parts)
    begin = next_multiple(1, multiple)
    room = next_multiple(begin + max(part[0] for part in parts), multiple)
    return room, multiple, {0} | {begin + byte for part in parts for byte in part[2]}


def reckoned_fields(some):
    parts = [reckoned(kind) for name, kind in some]
    begins = []
    end = 0
    for part in parts:
        begins.append(next_multiple(end, part[1]))
        end = begins[-1] + part[0]
    return parts, begins


def reckoned_places(some):
    begins = reckoned_fields(some)[1]
    return [(name, begin) for (name, kind), begin in zip(some, begins)]


def reckoned_holes(kind):
    room, multiple, filled = reckoned(kind)
    idle = [byte not in filled for byte in range(room)] + [False]
    holes = []
    begin = None
    for byte, is_idle in enumerate(idle):
        if is_idle and begin is None:
            begin = byte
        if not is_idle and begin is not None:
            holes.append((begin, byte))
            begin = None
    return holes


def drawn_name(source):
    return "".join(source.choice(LETTERS) for k in range(source.randint(1, 8)))


def drawn_kind(source, depth):
    sort = source.choice(["number", "row", "record", "choice"])
    if depth == 1 or sort == "number":
        return number(source.randint(1, 8), source.choice([1, 2, 4, 8]))
    if sort == "row":
        return row(drawn_kind(source, depth - 1), source.choice([1, 2, 3, 5, 20]))
    if sort == "choice":
        return choice(*[drawn_kind(source, depth - 1) for k in range(source.randint(1, 6))])
    names = []
    while len(names) < source.randint(1, 8):
        name = drawn_name(source)
        if name not in names:
            names.append(name)
    return ("record", [(name, drawn_kind(source, depth - 1)) for name in names])


def drawn_kinds(how_many):
    """Kinds of a room of at most two thousand bytes, the same ones each time."""
    source = random.Random(20)
    kinds = []
    while len(kinds) < how_many:
        kind = drawn_kind(source, source.randint(1, 5))
        if reckoned(kind)[0] <= 2000:
            kinds.append(kind)
    return kinds


class Sullen:
    """It answers whatever it is asked with an error."""

    def refuse(self, *things):
        raise RuntimeError("sullen")

    __eq__ = __ne__ = __lt__ = __le__ = __gt__ = __ge__ = __hash__ = refuse
    __len__ = __bool__ = __iter__ = __getitem__ = __contains__ = __int__ = __index__ = refuse
    __str__ = __add__ = __sub__ = __mod__ = refuse

    def __repr__(self):
        return "Sullen()"


class Alike:
    """It has the hash of a name, and answers == with an error."""

    def __init__(self, name):
        self.name = name

    def __hash__(self):
        return hash(self.name)

    def __eq__(self, other):
        raise RuntimeError("sullen")


STRANGE = [
    None, True, False, 0, 1, -1, 8, 10 ** 40, "", "a", "number", "n1/1", b"", b"number", bytearray(b"row"),
    [], (), {}, set(), frozenset(), [1], (1,), {"a": 1}, {1}, range(3), object(), object, len, int,
    ValueError("a"), slice(1), Ellipsis, iter([1]), (k for k in [1]), lambda: None, Sullen(), [Sullen()], (Sullen(),),
]

N1 = number(1, 1)

# Things that are no kinds for their form.
WRONG_FORMS = [
    ("number",), ("number", 1), ("number", 1, 1, 1), ("number", 1, 1, None), ["number", 1, 1],
    ("row",), ("row", N1), ("row", N1, 1, 1), ("row", 1, N1), ["row", N1, 1],
    ("record",), ("record", [("a", N1)], 1), ["record", [("a", N1)]], ("record", ("a", N1)), ("record", (("a", N1),)),
    ("record", ["a", N1]), ("record", [["a", N1]]), ("record", [("a",)]), ("record", [()]), ("record", ["ab"]),
    ("record", [("a", N1, N1)]), ("record", [("a", N1), None]), ("record", [None]), ("record", [N1]),
    ("record", [(N1, "a")]), ("record", {"a": N1}), ("record", [{"a": N1}]), ("record", {("a", N1): 1}),
    ("record", {("a", N1)}), ("record", "a"), ("record", N1),
    ("choice",), ("choice", [N1], 1), ["choice", [N1]], ("choice", (N1,)), ("choice", N1), ("choice", [[N1]]),
    ("choice", {0: N1}), ("choice", {N1: 1}), ("choice", {N1}), ("choice", "number"), ("choice", [("a", N1)]),
    ("choice", N1, N1), ("choice", [list(N1)]), ("choice", [N1, list(N1)]), ("choice", [None]),
    ("Number", 1, 1), ("numbers", 1, 1), ("numbe", 1, 1), (" number", 1, 1), ("", 1, 1), (b"number", 1, 1),
    (None, 1, 1), (1, 1, 1), (["number"], 1, 1), (("number",), 1, 1), (Sullen(), 1, 1), (True, 1, 1),
    ("rows", N1, 1), ("Row", N1, 1), ("ROW", N1, 1), ("pair", [N1]), ("Record", [("a", N1)]), ("records", [("a", N1)]),
    ("choices", [N1]), ("Choice", [N1]), ("list", N1, 1), (Sullen(), [N1]), ([], [N1]), ({}, [N1]),
    ("number", N1, 1), ("number", 1, N1), ("row", N1, N1), ("record", [N1]), ("choice", 1), ("record", 1),
    ("row", [N1], 1), ("row", [("a", N1)], 1), ("number", [1], 1), ("number", 1, [1]), ("number", (1,), (1,)),
    ("number", [("a", N1)]), ("row", [N1]), ("record", N1, 1), ("choice", N1, 1), ("number", "1", "1"),
]


def lists_within(thing):
    """Each list and dict of a thing, at any depth, as often as it stands there."""
    if isinstance(thing, dict):
        return [thing] + [inner for each in thing.values() for inner in lists_within(each)]
    if isinstance(thing, (list, tuple)):
        within = [inner for each in thing for inner in lists_within(each)]
        return [thing] + within if isinstance(thing, list) else within
    return []


def are_apart(*things):
    """Whether no list or dict stands twice, in one of the things or in two of them."""
    within = [id(inner) for thing in things for inner in lists_within(thing)]
    return len(within) == len(set(within))


def are_same(one, other):
    """Alike, and each thing within of the same kind (1 is not True, a list no tuple)."""
    if type(one) is not type(other) or one != other:
        return False
    if isinstance(one, dict):
        return all(are_same(one[key], other[key]) for key in one)
    if isinstance(one, (list, tuple)):
        return all(are_same(inner, beside) for inner, beside in zip(one, other))
    return True


def spoil(thing):
    """Changes each list and dict of a thing, at any depth."""
    for inner in lists_within(thing):
        if isinstance(inner, dict):
            inner.clear()
            inner["spoilt"] = 1
        else:
            inner.reverse()
            inner.append("spoilt")
            inner[0] = None


def reckoned_spots(kind, value, begin=0):
    """Of each byte that the value fills a tuple: where it lies, the byte, and how many kinds its
    mark can choose (0 for a number's byte)."""
    if kind[0] == "number":
        return [(begin + k, byte, 0) for k, byte in enumerate(value.to_bytes(kind[1], "little"))]
    if kind[0] == "row":
        room, multiple = reckoned(kind[1])[:2]
        begins = [begin + k * next_multiple(room, multiple) for k in range(kind[2])]
        parts = [(kind[1], each, place) for each, place in zip(value, begins)]
        marks = []
    elif kind[0] == "record":
        parts = [(inner, value[name], begin + place)
                 for (name, inner), place in zip(kind[1], reckoned_fields(kind[1])[1])]
        marks = []
    else:
        k, chosen = value
        parts = [(kind[1][k], chosen, begin + next_multiple(1, reckoned(kind)[1]))]
        marks = [(begin, k, len(kind[1]))]
    return marks + [spot for part in parts for spot in reckoned_spots(*part)]


def reckoned_bytes(kind, value):
    filled = {place: byte for place, byte, count in reckoned_spots(kind, value)}
    return [filled.get(place, 0) for place in range(reckoned(kind)[0])]


def drawn_value(source, kind):
    if kind[0] == "number":
        greatest = 256 ** kind[1] - 1
        return source.choice([0, 1, greatest, greatest - 1, source.randint(0, greatest), source.randint(0, greatest)])
    if kind[0] == "row":
        return [drawn_value(source, kind[1]) for k in range(kind[2])]
    if kind[0] == "record":
        shuffled = source.sample(kind[1], len(kind[1]))
        return {name: drawn_value(source, inner) for name, inner in shuffled}
    k = source.randrange(len(kind[1]))
    return (k, drawn_value(source, kind[1][k]))


def drawn_lying(source, how_many, widest_gap, longest):
    """Rising stretches; one in three touches the one ahead of it."""
    lying = []
    end = 0
    for k in range(how_many):
        begin = end + source.choice([0, source.randint(0, widest_gap), source.randint(0, widest_gap)])
        end = begin + source.randint(1, longest)
        lying.append((begin, end))
    return lying


def is_reckoned_placing(kinds, lying, places):
    """Byte by byte: each place a multiple from 0 on, and no byte taken twice."""
    if len(places) != len(kinds):
        return False
    taken = [byte for begin, end in lying for byte in range(begin, end)]
    for kind, place in zip(kinds, places):
        room, multiple = reckoned(kind)[:2]
        if place < 0 or place % multiple != 0:
            return False
        taken += range(place, place + room)
    return len(taken) == len(set(taken))


def reckoned_end(kinds, lying, places):
    return max([end for begin, end in lying] + [place + reckoned(kind)[0] for kind, place in zip(kinds, places)] + [0])


def has_placing_below(kinds, lying, end):
    """Whether any placing ends below the end: each field is tried at all its multiples."""
    if any(behind >= end for begin, behind in lying) or end == 0:
        return False
    taken = sum(1 << byte for begin, behind in lying for byte in range(begin, behind))
    return fits([reckoned(kind)[:2] for kind in kinds], taken, end - 1)


def fits(rooms, taken, end):
    if not rooms:
        return True
    room, multiple = rooms[0]
    for place in range(0, end - room + 1, multiple):
        filled = ((1 << room) - 1) << place
        if not taken & filled and fits(rooms[1:], taken | filled, end):
            return True
    return False


def least_end_of_orders(kinds, lying):
    """The least end of all placings in which the fields, in some order, each take the first place
    that is free. (No placing has less: drawn to such places, in the order in which they lie, its
    fields come to lie nowhere further behind.)"""
    rooms = [reckoned(kind)[:2] for kind in kinds]
    ends = []
    for order in itertools.permutations(rooms):
        taken = list(lying)
        for room, multiple in order:
            place = first_free(taken, room, multiple)
            taken.append((place, place + room))
        ends.append(max([end for begin, end in taken] + [0]))
    return min(ends)


def first_free(taken, room, multiple):
    place = 0
    while True:
        hit = [end for begin, end in taken if begin < place + room and place < end]
        if not hit:
            return place
        place = next_multiple(max(hit), multiple)


def add(name, kind=N1, agreed=0):
    return ("add", name, kind, agreed)


def drop(name):
    return ("drop", name)


def told_of(house):
    """All that a house tells."""
    makes = range(house.how_many_makes())
    return [(house.fields_of(make), house.places_of(make), house.room_at(make)) for make in makes]


class Life:
    """Which fields each make of a house has, told from the changes alone. A field is a tuple (serial,
    name, kind, agreed): by its serial it is known again, whatever others bear its name."""

    def __init__(self, changes):
        self.lists = []
        self.makes = []
        self.serial = 0
        self.go_on(changes)

    def go_on(self, changes):
        there = list(self.makes[-1]) if self.makes else []
        for change in changes:
            if change[0] == "drop":
                there = [field for field in there if field[1] != change[1]]
            else:
                self.serial += 1
                there.append((self.serial,) + change[1:])
        self.makes.append(there)
        self.lists.append(changes)

    def lead(self, house_class):
        """A house that goes through all these makes."""
        house = house_class([change[1:] for change in self.lists[0]])
        for changes in self.lists[1:]:
            house.next_make(changes)
        return house

    def serials(self, make):
        return [field[0] for field in self.makes[make]]

    def drawn_value(self, source, make):
        return {name: drawn_value(source, kind) for serial, name, kind, agreed in self.makes[make]}

    def written(self, house, make, value):
        """The bytes, field by field, where the house tells that they lie."""
        return self.laid_over([0] * house.room_at(make), house, make, value)

    def laid_over(self, some, house, make, value):
        laid = list(some)
        for serial, name, kind, agreed in self.makes[make]:
            if name in value:
                for k, byte in enumerate(reckoned_bytes(kind, value[name])):
                    laid[house.places_of(make)[name] + k] = byte
        return laid

    def filled(self, house, make):
        """All bytes where a field of the make lies, its idle ones too."""
        return {house.places_of(make)[name] + k
                for serial, name, kind, agreed in self.makes[make] for k in range(reckoned(kind)[0])}

    def read(self, a, b, value):
        """What a hand of make b tells of bytes of make a that were written from the value."""
        known = self.serials(a)
        return {name: value[name] if serial in known else agreed for serial, name, kind, agreed in self.makes[b]}

    def handed(self, a, b, value, changes):
        """The value of the later make, when a hand of make b has changed bytes of make a."""
        later = max(a, b)
        told = self.read(a, later, value)
        changed = {serial: changes[name] for serial, name, kind, agreed in self.makes[b] if name in changes}
        for serial, name, kind, agreed in self.makes[later]:
            if serial in changed:
                told[name] = changed[serial]
        return told


def drawn_life(source, kinds):
    """At most eight makes with at most twenty fields in all; few names, so that some come again."""
    left = 20
    life = None
    for make in range(source.randint(3, 8)):
        there = [field[1] for field in life.makes[-1]] if life else []
        changes = [drop(name) for name in there if source.random() < 0.3]
        there = [name for name in there if drop(name) not in changes]
        free = [name for name in ["a", "b", "longname", "d", "e", "none", "g", "h", "i"] if name not in there]
        count = min(left, len(free), source.choice([0, 1, 2, 3, 5]))
        left -= count
        for name in source.sample(free, count):
            kind = source.choice(kinds)
            changes.append(add(name, kind, drawn_value(source, kind)))
        if count and source.random() < 0.2:
            changes.append(drop(changes[-1][1]))
        if life:
            life.go_on(changes)
        else:
            life = Life([change for change in changes if change[0] == "add"])
    return life
