"""The desk: houses by names, asked and changed by rows of words."""

from laidfields.across import handed_on, read_by, written
from laidfields.counted import names_apart
from laidfields.errors import NoBytes, NoMake, NoName, NoRow, NoText
from laidfields.houses import House
from laidfields.kinds import is_name
from laidfields.texts import are_figures, read_bytes, read_kind, read_some_fields, read_value, show_bytes, show_value

DONE = "ok"
NOTHING = "none"
EQUALS = " = "
MOST_FIGURES = 2

# What stands behind the first word of each row, word by word; a text is all that is left.
ROWS = {
    "house": ("name",),
    "add": ("name", "name", "text"),
    "cut": ("name", "name"),
    "drop": ("name",),
    "makes": ("name",),
    "room": ("name", "number"),
    "places": ("name", "number"),
    "write": ("name", "number", "text"),
    "read": ("name", "number", "number", "text"),
    "hand": ("name", "number", "number", "text"),
    "both": ("name", "number", "number"),
    "names": (),
}


def words_of(row):
    if not isinstance(row, str):
        raise NoRow("this is no text")
    first = row.partition(" ")[0]
    if first not in ROWS:
        raise NoRow("no row begins with this word")
    forms = ROWS[first]
    words = row.split(" ", len(forms)) if "text" in forms else row.split(" ")
    if len(words) != len(forms) + 1:
        raise NoRow("the row has too few words, or too many")
    if not all([is_word(form, word) for form, word in zip(forms, words[1:])]):
        raise NoRow("a word is no name or no number where one must stand")
    return words


def is_word(form, word):
    if form == "name":
        return is_name(word)
    if form == "number":
        return len(word) <= MOST_FIGURES and are_figures(word)
    return True


def listed(words):
    return " ".join(words) if len(words) > 0 else NOTHING


# No kind, value or bytes are written with this sign: so the first one parts them. Where there is
# none, nothing is left for the second half, and that writes neither a value nor changes.
def halves_of(text):
    halves = text.partition(EQUALS)
    return (halves[0], halves[2])


# All of them are looked at first: a make that is none is refused before a text is.
def makes_at(house, words):
    makes = [int(word) for word in words]
    for make in makes:
        house.make_at(make)
    return makes


# It is perhaps none of the record kinds, which have one to eight fields, but is written like them.
def record_at_make(house, make):
    return ("record", [field[:2] for field in house.fields_of(make)])


def say_add(house, words):
    if words[0] in house.places_of(house.how_many_makes() - 1):
        raise NoMake("a field of this name is there")
    halves = halves_of(words[1])
    kind = read_kind(halves[0])
    house.next_make([("add", words[0], kind, read_value(kind, halves[1]))])
    return DONE


def say_cut(house, words):
    house.next_make([("drop", words[0])])
    return DONE


def say_makes(house, words):
    return str(house.how_many_makes())


def say_room(house, words):
    return str(house.room_at(int(words[0])))


def say_places(house, words):
    places = house.places_of(int(words[0]))
    return listed([name + ":" + str(places[name]) for name in places])


def say_write(house, words):
    make = int(words[0])
    kind = record_at_make(house, make)
    return show_bytes(written(house, make, read_value(kind, words[1])))


def say_read(house, words):
    makes = makes_at(house, words[:2])
    some = read_bytes(words[2])
    try:
        value = read_by(house, makes[0], makes[1], some)
    except NoBytes as e:
        raise NoText("these are no bytes of the make") from e
    return show_value(record_at_make(house, makes[1]), value)


def say_hand(house, words):
    makes = makes_at(house, words[:2])
    halves = halves_of(words[2])
    some = read_bytes(halves[0])
    changes = read_some_fields(house.fields_of(makes[1]), halves[1])
    try:
        handed = handed_on(house, makes[0], makes[1], some, changes)
    except NoBytes as e:
        raise NoText("these are no bytes of the make") from e
    return show_bytes(handed)


def say_both(house, words):
    makes = makes_at(house, words)
    return listed(names_apart(house, makes[0], makes[1])[0])


# The rows that one house answers by itself.
ANSWERS = {
    "add": say_add,
    "cut": say_cut,
    "makes": say_makes,
    "room": say_room,
    "places": say_places,
    "write": say_write,
    "read": say_read,
    "hand": say_hand,
    "both": say_both,
}


class Desk:
    def __init__(self):
        self.houses = {}

    def names(self):
        return sorted(self.houses)

    def say(self, row):
        words = words_of(row)
        if words[0] == "names":
            return listed(self.names())
        if words[0] == "house":
            self.houses[words[1]] = House([])
            return DONE
        if words[1] not in self.houses:
            raise NoName("no house stands by this name")
        if words[0] == "drop":
            self.houses.pop(words[1])
            return DONE
        return ANSWERS[words[0]](self.houses[words[1]], words[2:])
