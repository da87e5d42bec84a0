"""Promises 20 and 21: the desk."""
import itertools
import random
import re
import unittest

from laidfields.across import handed_on, read_by, written
from laidfields.counted import names_apart
from laidfields.desk import Desk
from laidfields.errors import FieldError, NoMake, NoName, NoRow, NoText
from laidfields.houses import House
from laidfields.texts import show_bytes, show_kind, show_value
from tests.samples import STRANGE, Life, Sullen, add, are_apart, choice, drawn_value, drop, number, record, row, spoil

N11, N22, N34, N44, N88 = (number(*each) for each in [(1, 1), (2, 2), (3, 4), (4, 4), (8, 8)])
SMALL = [number(w, m) for w in (1, 2, 3, 8) for m in (1, 2, 4, 8)] + [
    record(N11, N44), choice(N11, N44), row(N34, 2), choice(row(N11, 2), record(N22)),
]

# Said one after the other to one desk: a row and its answer, or the class of the refusal.
STORY = [
    ("names", "none"),
    ("house h", "ok"),
    ("names", "h"),
    ("makes h", "1"),
    ("room h 0", "0"),
    ("places h 0", "none"),
    ("write h 0 {}", "-"),
    ("read h 0 0 -", "{}"),
    ("hand h 0 0 - = {}", "-"),
    ("both h 0 0", "none"),
    ("add h a n4/4 = 258", "ok"),
    ("makes h", "2"),
    ("room h 1", "4"),
    ("places h 1", "a:0"),
    ("places h 0", "none"),
    ("write h 1 {a 1}", "01 00 00 00"),
    ("read h 0 1 -", "{a 258}"),
    ("read h 1 0 01 00 00 00", "{}"),
    ("hand h 0 1 - = {}", "02 01 00 00"),
    ("hand h 0 1 - = {a 7}", "07 00 00 00"),
    ("hand h 1 0 07 00 00 00 = {}", "07 00 00 00"),
    ("both h 0 1", "none"),
    ("both h 1 1", "a"),
    ("add h b <n1/1, {x n1/1*2}> = 1:{x [3, 4]}", "ok"),
    ("room h 2", "8"),
    ("places h 2", "a:0 b:4"),
    ("write h 2 {a 1, b 0:9}", "01 00 00 00 00 09 00 00"),
    ("read h 1 2 05 00 00 00", "{a 5, b 1:{x [3, 4]}}"),
    ("read h 2 1 05 00 00 00 00 09 00 ff", "{a 5}"),
    ("read h 2 2 05 00 00 00 00 09 00 ff", "{a 5, b 0:9}"),
    ("hand h 2 1 05 00 00 00 00 09 00 ff = {a 6}", "06 00 00 00 00 09 00 ff"),
    ("hand h 2 2 05 00 00 00 00 09 00 ff = {b 1:{x [1, 2]}}", "05 00 00 00 01 01 02 ff"),
    ("hand h 2 2 05 00 00 00 00 09 00 ff = {a 1, b 0:2}", "01 00 00 00 00 02 00 ff"),
    ("hand h 1 2 05 00 00 00 = {}", "05 00 00 00 01 03 04 00"),
    ("cut h a", "ok"),
    ("makes h", "4"),
    ("places h 3", "b:4"),
    ("places h 2", "a:0 b:4"),
    ("room h 3", "8"),
    ("write h 3 {b 0:9}", "00 00 00 00 00 09 00 00"),
    ("both h 2 3", "b"),
    ("both h 3 2", "b"),
    ("both h 1 3", "none"),
    ("add h a n1/1 = 200", "ok"),
    ("places h 4", "b:4 a:7"),
    ("both h 2 4", "b"),
    ("both h 4 4", "b a"),
    ("read h 2 4 05 00 00 00 00 09 00 ff", "{b 0:9, a 200}"),
    ("hand h 4 1 05 00 00 00 00 09 00 ff = {a 77}", "05 00 00 00 00 09 00 ff"),
    ("hand h 4 4 05 00 00 00 00 09 00 ff = {a 77}", "05 00 00 00 00 09 00 4d"),
    ("house other", "ok"),
    ("house b", "ok"),
    ("names", "b h other"),
    ("makes other", "1"),
    ("makes h", "5"),
    ("house h", "ok"),
    ("makes h", "1"),
    ("places h 1", NoMake),
    ("names", "b h other"),
    ("drop h", "ok"),
    ("names", "b other"),
    ("makes h", NoName),
    ("drop h", NoName),
    ("house h", "ok"),
    ("makes h", "1"),
    ("drop b", "ok"),
    ("drop other", "ok"),
    ("drop h", "ok"),
    ("names", "none"),
]

# Rows that a desk answers on which a house h stands with the makes 0 ({}), 1 ({a}) and 2 ({a, b}).
ROWS = [
    "house x", "house h", "add h x n1/1 = 0", "cut h a", "drop h", "makes h", "room h 0", "places h 2",
    "write h 2 {a 1, b 2}", "read h 1 2 05", "hand h 1 2 05 = {b 2}", "both h 0 2", "names",
]

# A row's form, once more: what is no such row is matched by none of these.
NAME, NUMBER, TEXT = "[a-z]{1,8}", "(?:[0-9]|[1-9][0-9])", "(?s:.*)"
FORMS = [
    f"house {NAME}", f"add {NAME} {NAME} {TEXT}", f"cut {NAME} {NAME}", f"drop {NAME}", f"makes {NAME}",
    f"room {NAME} {NUMBER}", f"places {NAME} {NUMBER}", f"write {NAME} {NUMBER} {TEXT}",
    f"read {NAME} {NUMBER} {NUMBER} {TEXT}", f"hand {NAME} {NUMBER} {NUMBER} {TEXT}", f"both {NAME} {NUMBER} {NUMBER}",
    "names",
]

NO_ROWS = [
    "", " ", "\n", "house", "house ", "house  h", " house h", "house h ", "house h h", "House h", "HOUSE h", "house H",
    "house h1", "house h\n", "house\th", "house \u00e4", "house abcdefghi", "house 1", "house -", "houses h", "hous h",
    "h", "add", "add ", "add h", "add h ", "add h x", "add  h x n1/1 = 0", "add h  x n1/1 = 0", "add h X n1/1 = 0",
    "add H x n1/1 = 0", "add h x1 n1/1 = 0", "add h abcdefghi n1/1 = 0", "add h n1/1 = 0", "add x n1/1 = 0",
    "Add h x n1/1 = 0", " add h x n1/1 = 0", "add h\tx n1/1 = 0", "add h x\tn1/1 = 0", "add h x\nn1/1 = 0",
    "add h 1 n1/1 = 0", "cut", "cut ", "cut h", "cut h ", "cut h a ", "cut h  a", "cut  h a", "cut h a b", "cut h A",
    "cut h a\n", "cut h 1", "cut a, b",
    "drop", "drop ", "drop h ", "drop h a", "drop  h", " drop h", "drop H", "drop h\n", "Drop h",
    "makes", "makes ", "makes h ", "makes h 1", "makes  h", "makes H", "makes 0", "make h", "makes h\n",
    "room", "room h", "room h ", "room h 0 ", "room h  0", "room  h 0", "room h 00", "room h 01", "room h 000",
    "room h 100", "room h -1", "room h +1", "room h a", "room h 0 1", "room h 0\n", "room h \u0661", "room h \u00b2",
    "room h 1.0", "room 0 h", "room h 0x1", "room h 1_0", "room h " + "1" * 5000, "rooms h 0", "room h \uff10",
    "room H 0", "places", "places h", "places h ", "places h 0 ", "places h  0", "places h 00", "places h 100",
    "places h a", "places h 0 1", "place h 0", "places h -1",
    "write", "write h", "write h 0", "write h ", "write h  {}", "write h {}", "write  h 0 {}", "write h  0 {}",
    "write h 00 {}", "write h 100 {}", "write h a {}", "write H 0 {}", "write h 0\t{}", "write h 0{}", "write h -1 {}",
    "write h 0\n{}", "read", "read h", "read h 0", "read h 0 0", "read h 0 -", "read h  0 0 -", "read h 0  0 -",
    "read h 00 0 -", "read h 0 00 -", "read h 100 0 -", "read h 0 100 -", "read h a 0 -", "read h 0 a -",
    "read H 0 0 -", "read h 0 0-", "read h 0 0\t-",
    "read h 0, 0 -", "hand", "hand h", "hand h 0", "hand h 0 0", "hand h 0 - = {}", "hand h  0 0 - = {}",
    "hand h 00 0 - = {}", "hand h 0 00 - = {}", "hand h 100 0 - = {}", "hand h 0 a - = {}", "hand H 0 0 - = {}",
    "hands h 0 0 - = {}", "both", "both h", "both h 0", "both h 0 ", "both h 0 0 ", "both h 0  0", "both h  0 0",
    "both h 0 0 0", "both h 00 0", "both h 0 00",
    "both h 100 0", "both h 0 100", "both h a 0", "both h 0 a", "both H 0 0", "both h 0 0\n", "both h 0, 0",
    "both h -1 0", "names ", " names", "names h", "names\n", "Names", "name", "names names", "none", "ok", "makes\n h",
    "steady h 0 0", "holes h", "house h\nnames", "names\nnames", "NoRow", "# names", "house h; names",
]

# Texts that write no kind with an agreed value, of a field to be added.
NO_FIELDS = [
    "", " ", "n1/1", "n1/1 ", "n1/1 =", "n1/1 = ", "= 0", " = 0", "n1/1 0", "n1/1=0", "n1/1 =0", "n1/1= 0",
    "n1/1  = 0", "n1/1 =  0", " n1/1 = 0", "n1/1 = 0 ", "n1/1 = 0\n", "n1/1 = 256", "n1/1 = -1", "n1/1 = 00",
    "n1/1 = a", "n1/1 = [0]", "n1/1 = 0 = 0",
    "n1/1 = n1/1", "0 = n1/1", "n1/1 = = 0", "n9/1 = 0", "n1/3 = 0", "n1/1*2 = [0]", "n1/1*2 = [0, 0, 0]", "n1/1*2 = 0",
    "n1/1*0 = []", "n1/1*21 = [" + "0, " * 20 + "0]", "{a n1/1} = {b 0}", "{a n1/1, b n1/1} = {b 0, a 0}", "{} = {}",
    "<n1/1> = 1:0", "<n1/1> = 0", "<> = 0:0", "<<<<<n1/1>>>>> = 0:0:0:0:0:0", "n1/1\t=\t0", "n1/1\n= 0", "n1/1 == 0",
    "x n1/1 = 0", "(n1/1) = 0", "n1/1 : 0", "n1/1, = 0", "\u0664", "<" * 1000 + " = 0",
]


def desk_with_a_house():
    desk = Desk()
    for each in ["house h", "add h a n1/1 = 3", "add h b n2/2 = 4"]:
        desk.say(each)
    return desk


def told_of_desk(desk):
    """All that a desk tells."""
    told = [desk.names(), desk.say("names")]
    for name in desk.names():
        makes = range(int(desk.say(f"makes {name}")))
        for a in makes:
            told += [desk.say(f"room {name} {a}"), desk.say(f"places {name} {a}")]
            room = int(told[-2])
            for b in makes:
                told.append(desk.say(f"both {name} {a} {b}"))
                told.append(desk.say(f"read {name} {a} {b} " + show_bytes([0] * room)))
    return told


class DeskCase(unittest.TestCase):
    def is_refused(self, desk, row_said, due):
        """The refusal is of just this class, and the desk tells all as before."""
        before = told_of_desk(desk)
        with self.assertRaises(FieldError) as caught:
            desk.say(row_said)
        self.assertIs(type(caught.exception), due, repr(row_said)[:200])
        self.assertEqual(told_of_desk(desk), before)

    def is_said(self, desk, row_said, due):
        told = desk.say(row_said)
        self.assertIs(type(told), str)
        self.assertEqual(told, due, row_said)


class TestRows(DeskCase):
    def test_a_story_by_hand(self):
        desk = Desk()
        for row_said, due in STORY:
            if isinstance(due, str):
                self.is_said(desk, row_said, due)
            else:
                self.is_refused(desk, row_said, due)

    def test_each_row_is_answered(self):
        due = [
            "ok", "ok", "ok", "ok", "ok", "3", "0", "a:0 b:2", "01 00 02 00", "{a 5, b 4}", "05 00 02 00", "none", "h",
        ]
        for row_said, answer in zip(ROWS, due):
            self.is_said(desk_with_a_house(), row_said, answer)

    def test_names(self):
        desk = Desk()
        self.assertEqual(desk.names(), [])
        names = ["b", "a", "z", "ab", "aa", "zzzzzzzz", "abcdefgh", "ba", "names", "none", "house"]
        for k, name in enumerate(names):
            desk.say(f"house {name}")
            self.assertIs(type(desk.names()), list)
            self.assertEqual(desk.names(), sorted(names[:k + 1]))
            self.is_said(desk, "names", " ".join(sorted(names[:k + 1])))
        self.is_said(desk, "names", "a aa ab abcdefgh b ba house names none z zzzzzzzz")
        for k, name in enumerate(names):
            desk.say(f"drop {name}")
            self.assertEqual(desk.names(), sorted(names[k + 1:]))
        self.is_said(desk, "names", "none")

    def test_names_are_the_asker_s_own(self):
        desk = desk_with_a_house()
        desk.say("house a")
        told = [desk.names() for k in range(3)]
        self.assertTrue(are_apart(*told))
        spoil(told)
        self.assertEqual(desk.names(), ["a", "h"])
        self.is_said(desk, "names", "a h")

    def test_fields_of_any_kind(self):
        source = random.Random(1)
        for k in range(40):
            desk, house, life = Desk(), House([]), Life([])
            desk.say("house h")
            for step in range(7):
                self.go_on(source, desk, house, life)
            self.tells_alike(source, desk, house, life)

    def go_on(self, source, desk, house, life):
        there = [field[1] for field in life.makes[-1]]
        if there and source.random() < 0.3:
            changes = [drop(source.choice(there))]
            self.is_said(desk, f"cut h {changes[0][1]}", "ok")
        else:
            names = ["a", "b", "longname", "none"] + list("cdefgh")
            name = source.choice([name for name in names if name not in there])
            kind = source.choice(SMALL)
            changes = [add(name, kind, drawn_value(source, kind))]
            self.is_said(desk, f"add h {name} {show_kind(kind)} = {show_value(kind, changes[0][3])}", "ok")
        house.next_make(changes)
        life.go_on(changes)

    def tells_alike(self, source, desk, house, life):
        """The desk's house and the other one, asked by its own interface."""
        makes = range(len(life.makes))
        self.is_said(desk, "makes h", str(len(makes)))
        for a in makes:
            self.is_said(desk, f"room h {a}", str(house.room_at(a)))
            places = house.places_of(a)
            shown = [f"{field[1]}:{places[field[1]]}" for field in life.makes[a]]
            self.is_said(desk, f"places h {a}", " ".join(shown) or "none")
            value = life.drawn_value(source, a)
            some = show_bytes(written(house, a, value))
            self.is_said(desk, f"write h {a} {self.shown(life, a, value)}", some)
            for b in makes:
                self.is_said(desk, f"both h {a} {b}", " ".join(names_apart(house, a, b)[0]) or "none")
                read = read_by(house, a, b, written(house, a, value))
                self.is_said(desk, f"read h {a} {b} {some}", self.shown(life, b, read))
                changes = {field[1]: drawn_value(source, field[2]) for field in life.makes[b] if source.random() < 0.5}
                handed = handed_on(house, a, b, written(house, a, value), changes)
                self.is_said(desk, f"hand h {a} {b} {some} = {self.shown(life, b, changes)}", show_bytes(handed))

    def shown(self, life, make, value):
        parts = [f"{name} {show_value(kind, value[name])}"
                 for serial, name, kind, agreed in life.makes[make] if name in value]
        return "{" + ", ".join(parts) + "}"

    def test_makes_of_more_fields_than_a_record_has(self):
        desk = Desk()
        desk.say("house h")
        names = "abcdefghijklmnopqrst"
        for k, name in enumerate(names):
            self.is_said(desk, f"add h {name} n1/1 = {k}", "ok")
        value = "{" + ", ".join(f"{name} {k + 1}" for k, name in enumerate(names)) + "}"
        some = " ".join("%02x" % (k + 1) for k in range(20))
        self.is_said(desk, f"write h 20 {value}", some)
        self.is_said(desk, f"read h 20 20 {some}", value)
        self.is_said(desk, f"read h 20 1 {some}", "{a 1}")
        self.is_said(desk, f"hand h 20 9 {some} = " + "{i 255}", some.replace("09", "ff"))
        self.is_said(desk, "makes h", "21")
        self.is_refused(desk, "room h 21", NoMake)

    def test_a_field_of_the_greatest_depth(self):
        desk = Desk()
        desk.say("house h")
        self.is_said(desk, "add h a {a {a {a {a n1/1}}}} = {a {a {a {a 5}}}}", "ok")
        self.is_said(desk, "read h 0 1 -", "{a {a {a {a {a 5}}}}}")
        self.is_said(desk, "write h 1 {a {a {a {a {a 6}}}}}", "06")

    def test_new_fields_are_put_into_holes(self):
        desk = Desk()
        for each in ["house h", "add h a n1/1 = 0", "add h b n4/4 = 0", "add h c n1/1 = 0", "add h d n2/2 = 0"]:
            self.is_said(desk, each, "ok")
        self.is_said(desk, "places h 4", "a:0 b:4 c:1 d:2")
        self.is_said(desk, "room h 4", "8")

    def test_a_field_named_like_a_word(self):
        desk = Desk()
        for each in ["house house", "add house add n1/1 = 1", "add house cut n1/1 = 2", "cut house add", "house names"]:
            self.is_said(desk, each, "ok")
        self.is_said(desk, "places house 3", "cut:1")
        self.is_said(desk, "names", "house names")
        self.is_said(desk, "drop names", "ok")
        self.is_said(desk, "names", "house")

    def test_two_desks_know_nothing_of_one_another(self):
        one, other = Desk(), Desk()
        one.say("house h")
        one.say("add h a n1/1 = 1")
        self.assertEqual(other.names(), [])
        self.is_refused(other, "makes h", NoName)
        other.say("house h")
        self.is_said(other, "makes h", "1")
        other.say("add h b n2/2 = 1")
        other.say("add h c n2/2 = 1")
        self.is_said(one, "makes h", "2")
        self.is_said(one, "places h 1", "a:0")
        other.say("drop h")
        self.is_said(one, "names", "h")
        self.is_refused(other, "makes h", NoName)

    def test_houses_of_one_desk_are_apart(self):
        desk = desk_with_a_house()
        desk.say("house g")
        desk.say("add g z n8/8 = 1")
        self.is_said(desk, "places h 2", "a:0 b:2")
        self.is_said(desk, "places g 1", "z:0")
        desk.say("drop g")
        self.is_said(desk, "makes h", "3")

    def test_the_same_asked_again_is_answered_the_same(self):
        desk = desk_with_a_house()
        for row_said in ROWS[5:]:
            self.assertEqual(len({desk.say(row_said) for k in range(3)}), 1)
        one, other = (desk_with_a_house() for k in range(2))
        self.assertEqual(told_of_desk(one), told_of_desk(other))


class TestRefusals(DeskCase):
    def test_rows_that_are_none(self):
        desk = desk_with_a_house()
        for row_said in NO_ROWS:
            self.is_refused(desk, row_said, NoRow)
            self.is_refused(Desk(), row_said, NoRow)

    def test_things_that_are_no_text(self):
        desk = desk_with_a_house()
        for thing in STRANGE + [b"names", ["names"], ("names",), ["house", "h"], {"names": 1}, Sullen()]:
            self.is_refused(desk, thing, NoRow)

    def test_a_row_is_none_just_if_it_has_no_form(self):
        source = random.Random(2)
        counts = {True: 0, False: 0}
        for k in range(8000):
            row_said = self.drawn_row(source)
            has_form = any(re.fullmatch(form, row_said) for form in FORMS)
            counts[has_form] += 1
            try:
                desk_with_a_house().say(row_said)
            except FieldError as error:
                self.assertEqual(type(error) is NoRow, not has_form, repr(row_said))
            else:
                self.assertTrue(has_form, repr(row_said))
        self.assertGreater(min(counts.values()), 2000)

    def drawn_row(self, source):
        names = ["h", "a", "x", "g", "abcdefgh"]
        numbers = ["0", "1", "2", "9", "10", "99"]
        others = ["abcdefghi", "00", "01", "100", "A", "", "-", "{}", "n1/1 = 0", "- = {}", "05", "05 = {}", "{a 1}",
                  "\n", "a\n", "0\t", "\u0661", "names", "h", "0"]
        form = source.choice(FORMS)
        words = [form.split(" ")[0]]
        for sort in form.split(" ")[1:]:
            usual = {NAME: names, NUMBER: numbers, TEXT: others}[sort]
            words.append(source.choice(usual if source.random() < 0.8 else others))
        if source.random() < 0.1:
            words.append(source.choice(others))
        if source.random() < 0.1:
            words.pop(source.randrange(len(words)))
        return " ".join(words)

    def test_each_number_of_one_or_two_figures(self):
        desk = desk_with_a_house()
        for a in range(0, 130):
            due = NoMake if 3 <= a < 100 else NoRow
            for row_said in [f"room h {a}", f"places h {a}", f"both h {a} 0", f"both h 0 {a}", f"write h {a} x",
                             f"read h {a} 0 x",
                             f"read h 0 {a} x", f"hand h {a} 0 x", f"hand h 0 {a} x"]:
                if a >= 3:
                    self.is_refused(desk, row_said, due)
                elif row_said[-1] == "x":
                    self.is_refused(desk, row_said, NoText)
                else:
                    desk.say(row_said)
            if a < 10:
                self.is_refused(desk, f"room h 0{a}", NoRow)

    def test_names_of_one_to_eight_small_letters(self):
        for name in ["a", "z", "abcdefgh", "zzzzzzzz", "n"]:
            desk = Desk()
            self.is_said(desk, f"house {name}", "ok")
            self.is_said(desk, f"add {name} {name} n1/1 = 5", "ok")
            self.is_said(desk, f"places {name} 1", f"{name}:0")
            self.is_said(desk, f"cut {name} {name}", "ok")
            self.is_said(desk, f"drop {name}", "ok")

    def test_a_name_that_stands_for_nothing(self):
        for desk in [Desk(), desk_with_a_house()]:
            for row_said in ROWS[2:-1]:
                self.is_refused(desk, re.sub(r"^(\w+) h\b", r"\1 g", row_said), NoName)
            for name in ["hh", "a", "b", "x", "names"]:
                self.is_refused(desk, f"makes {name}", NoName)
                self.is_refused(desk, f"drop {name}", NoName)

    def test_a_house_needs_no_name_that_stands(self):
        desk = Desk()
        self.is_said(desk, "house g", "ok")
        self.is_said(desk, "house g", "ok")
        self.is_said(desk, "names", "g")

    def test_fields_that_are_there_or_not(self):
        desk = desk_with_a_house()
        for name in ["a", "b"]:
            self.is_refused(desk, f"add h {name} n1/1 = 0", NoMake)
        for name in ["c", "h", "aa", "x"]:
            self.is_refused(desk, f"cut h {name}", NoMake)
        desk.say("cut h a")
        self.is_refused(desk, "cut h a", NoMake)
        self.is_said(desk, "add h a n1/1 = 0", "ok")
        self.is_refused(desk, "add h a n1/1 = 0", NoMake)
        self.is_said(desk, "makes h", "5")

    def test_texts_that_write_no_field(self):
        desk = desk_with_a_house()
        for text in NO_FIELDS:
            self.is_refused(desk, f"add h x {text}", NoText)

    def test_texts_that_write_no_value(self):
        desk = desk_with_a_house()
        texts = ["", " ", "{}", "{a 1}", "{b 1}", "{b 2, a 1}", "{a 1, b 2} ", " {a 1, b 2}", "{a 1,b 2}",
                 "{a 256, b 1}", "{a 1, b 65536}", "{a 01, b 1}", "{a 1, b 2, c 3}", "{a 1, b 2", "a 1, b 2", "[1, 2]",
                 "{a 1, b 2} = {}", "01 00 02 00", "-", "{a 1, b x}"]
        for text in texts:
            self.is_refused(desk, f"write h 2 {text}", NoText)
        for text in ["", "{a}", "-", "{ }", "{} ", "none"]:
            self.is_refused(desk, f"write h 0 {text}", NoText)
        self.is_refused(desk, "write h 1 {a 1, b 2}", NoText)

    def test_texts_that_write_no_bytes(self):
        desk = desk_with_a_house()
        desk.say("add h c <n1/1, n1/2> = 0:5")
        self.is_said(desk, "places h 3", "a:0 b:2 c:4")
        texts = ["", " ", "-", "00", "00 00 00 00 00 00 00", "00 00 00 00 00 00 00 00 00", "00 00 00 00 00 00 00 0",
                 "00 00 00 00 00 00 00 00 ", "00 00 00 00  00 00 00 00", " 00 00 00 00 00 00 00 00",
                 "00 00 00 00 00 00 00 0G", "FF 00 00 00 00 00 00 00",
                 "0000000000000000", "[0, 0, 0, 0, 0, 0, 0, 0]", "00 00 00 00 02 00 00 00", "00 00 00 00 00 01 00 00",
                 "00 00 00 00 00 00 00 01", "00 00 00 00 01 00 00 01"]
        for text in texts:
            for b in range(4):
                self.is_refused(desk, f"read h 3 {b} {text}", NoText)
                self.is_refused(desk, f"hand h 3 {b} {text} = " + "{}", NoText)
        for b in range(4):
            self.is_refused(desk, f"read h 0 {b} 00", NoText)
            self.is_refused(desk, f"read h 0 {b} ", NoText)
        self.is_said(desk, "read h 3 3 05 ff 06 00 01 00 07 00", "{a 5, b 6, c 1:7}")

    def test_texts_that_write_no_changes(self):
        desk = desk_with_a_house()
        texts = ["05 00 06 00", "05 00 06 00 =", "05 00 06 00 = ", "05 00 06 00={}", "05 00 06 00 ={}",
                 "05 00 06 00= {}", "05 00 06 00  = {}", "05 00 06 00 =  {}", "05 00 06 00 = {} ", " 05 00 06 00 = {}",
                 "= {}", " = {}", "{} = 05 00 06 00",
                 "05 00 06 00 = {} = {}", "05 00 06 00 = = {}", "05 00 06 00 = {b 1, a 1}", "05 00 06 00 = {a 1, a 1}",
                 "05 00 06 00 = {c 1}", "05 00 06 00 = {a 256}", "05 00 06 00 = {b 65536}", "05 00 06 00 = {a}",
                 "05 00 06 00 = {a }", "05 00 06 00 = a 1", "05 00 06 00 = {a 1,b 2}",
                 "05 00 06 00 = {a 1, }", "05 00 06 00 = {, a 1}", "05 00 06 00 = {, b 1}", "05 00 06 00 = { a 1}",
                 "05 00 06 00 = {a 1 }", "05 00 06 00 = {a 1", "05 00 06 00 = [1]", "05 00 06 00 = none",
                 "05 00 06 00 = -", "05 00 06 00 = {a 01}", ""]
        for text in texts:
            self.is_refused(desk, f"hand h 2 2 {text}", NoText)
        self.is_refused(desk, "hand h 2 1 05 00 06 00 = {b 1}", NoText)
        self.is_refused(desk, "hand h 2 0 05 00 06 00 = {a 1}", NoText)
        self.is_refused(desk, "hand h 0 1 - = {b 1}", NoText)
        for changes, due in [("{}", "05 00 06 00"), ("{a 1}", "01 00 06 00"), ("{b 1}", "05 00 01 00"),
                             ("{a 1, b 1}", "01 00 01 00")]:
            self.is_said(desk, f"hand h 2 2 05 00 06 00 = {changes}", due)

    def test_the_value_of_a_change_that_changes_nothing_is_looked_at(self):
        desk = desk_with_a_house()
        desk.say("cut h a")
        desk.say("add h a n2/2 = 9")
        self.is_said(desk, "places h 4", "b:2 a:4")
        self.is_said(desk, "hand h 4 1 05 00 06 00 07 00 = {a 255}", "05 00 06 00 07 00")
        self.is_refused(desk, "hand h 4 1 05 00 06 00 07 00 = {a 256}", NoText)

    def test_which_goes_first(self):
        """Each fault is put into a row or left out: the first one that is there tells the refusal."""
        for word, name, a, b, text in itertools.product(
            ["read", "hand"], ["h", "g", "G"], ["2", "7", "07"], ["1", "8", "100"], ["05 00 06 00", "zz"],
        ):
            said = f"{word} {name} {a} {b} {text}" + (" = {a 1}" if word == "hand" else "")
            self.is_first(said, name == "G" or a == "07" or b == "100", name == "g", a == "7" or b == "8", text == "zz")
        for name, a, text in itertools.product(["h", "g", "G"], ["2", "7", "07"], ["{a 1, b 2}", "zz", ""]):
            self.is_first(f"write {name} {a} {text}", name == "G" or a == "07", name == "g", a == "7",
                          text in ("zz", ""))
        for name, field, text in itertools.product(["h", "g", "G"], ["x", "a", "X"],
                                                   ["n1/1 = 0", "zz", "", "n1/1 = 256", "n9/1 = 0"]):
            self.is_first(f"add {name} {field} {text}", "G" == name or "X" == field, name == "g", field == "a",
                          text != "n1/1 = 0")
        for name, field in itertools.product(["h", "g", "G"], ["a", "x", "X"]):
            self.is_first(f"cut {name} {field}", "G" == name or "X" == field, name == "g", field == "x", False)
        for word, name, a in itertools.product(["room", "places"], ["h", "g", "G"], ["2", "7", "07"]):
            self.is_first(f"{word} {name} {a}", name == "G" or a == "07", name == "g", a == "7", False)
        for name, a, b in itertools.product(["h", "g", "G"], ["2", "7", "07"], ["1", "8", "100"]):
            self.is_first(f"both {name} {a} {b}", name == "G" or a == "07" or b == "100", name == "g",
                          a == "7" or b == "8", False)

    def is_first(self, row_said, *faults):
        due = [refusal for refusal, is_there in zip([NoRow, NoName, NoMake, NoText], faults) if is_there]
        desk = desk_with_a_house()
        if due:
            self.is_refused(desk, row_said, due[0])
        else:
            desk.say(row_said)

    def test_a_text_may_hold_anything(self):
        desk = desk_with_a_house()
        for text in ["\n", "\t", "a\nb", "  ", "= =", " = ", "\u00e4", "\ud800", "\0", "n1/1 = 0\n", "x" * 100000]:
            for head in ["add h x", "write h 2", "read h 2 2", "hand h 2 2"]:
                self.is_refused(desk, f"{head} {text}", NoText)


if __name__ == "__main__":
    unittest.main()
