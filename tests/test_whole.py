"""Promises 2, 3 and 4 over the whole program, and the interface as the document tells it."""
import importlib
import inspect
import random
import unittest

from laidfields.across import handed_on, read_by, written
from laidfields.counted import names_apart, steady_names
from laidfields.desk import Desk
from laidfields.errors import FieldError, NoBytes, NoMake, NoName, NoRow, NoText, NoValue
from laidfields.houses import House
from laidfields.texts import read_bytes, read_kind, read_value, show_bytes, show_kind, show_value
from laidfields.values import bytes_of, value_of
from tests.samples import (
    add, are_apart, choice, drawn_kinds, drawn_life, drawn_value, drop, has_placing_below, number, record, row, spoil,
    told_of,
)

N11, N22, N34, N44, N88 = (number(*each) for each in [(1, 1), (2, 2), (3, 4), (4, 4), (8, 8)])
SMALL = [number(w, m) for w in range(1, 9) for m in (1, 2, 4, 8)] + [
    record(N11, N44), choice(N11, N44), row(N34, 2), choice(row(N11, 3), record(N22, N11)),
    row(record(N11, choice(N22)), 2),
]

INTERFACE = {
    "kinds": {"is_kind": "thing", "rounded_up": "number, m", "room_of": "kind"},
    "inorder": {"places_in_order": "fields", "holes_of": "kind"},
    "closely": {"placed_closely": "kinds, lying", "closely_laid": "fields", "is_placing": "kinds, lying, places"},
    "values": {"is_value": "kind, thing", "bytes_of": "kind, thing", "value_of": "kind, thing"},
    "across": {"written": "house, make, thing", "read_by": "house, a, b, thing",
               "handed_on": "house, a, b, thing, changes"},
    "counted": {"names_apart": "house, a, b", "steady_names": "house, a, b"},
    "texts": {"show_kind": "kind", "show_value": "kind, thing", "show_bytes": "thing", "read_kind": "text",
              "read_value": "kind, text", "read_bytes": "text"},
}
METHODS = {
    ("houses", "House"): {"__init__": "self, fields", "next_make": "self, changes", "how_many_makes": "self",
                          "fields_of": "self, make", "places_of": "self, make", "room_at": "self, make"},
    ("desk", "Desk"): {"__init__": "self", "say": "self, row", "names": "self"},
}


class TestInterface(unittest.TestCase):
    def test_functions(self):
        for module, functions in INTERFACE.items():
            for name, parameters in functions.items():
                found = getattr(importlib.import_module("laidfields." + module), name)
                self.assertEqual(str(inspect.signature(found)), f"({parameters})", name)

    def test_methods(self):
        for (module, name), methods in METHODS.items():
            found = getattr(importlib.import_module("laidfields." + module), name)
            for method, parameters in methods.items():
                self.assertEqual(str(inspect.signature(getattr(found, method))), f"({parameters})", method)


class Ledger:
    """What stands in some bytes that go from hand to hand: of each field, by its serial, its value."""

    def __init__(self, case, source, life, house):
        self.case, self.source, self.life, self.house = case, source, life, house
        self.make = source.randrange(len(life.makes))
        value = life.drawn_value(source, self.make)
        self.stands = {serial: value[name] for serial, name, kind, agreed in life.makes[self.make]}
        self.some = written(house, self.make, value)

    def due(self, make):
        """What a reader of the make must be told."""
        known = self.life.serials(self.make)
        return {name: self.stands[serial] if serial in known else agreed
                for serial, name, kind, agreed in self.life.makes[make]}

    def hand_on(self):
        b = self.source.randrange(len(self.life.makes))
        changed = [field for field in self.life.makes[b] if self.source.random() < 0.4]
        changes = {name: drawn_value(self.source, kind) for serial, name, kind, agreed in changed}
        later = max(self.make, b)
        known = self.life.serials(self.make)
        self.some = handed_on(self.house, self.make, b, self.some, changes)
        for serial, name, kind, agreed in self.life.makes[later]:
            if serial not in known:
                self.stands[serial] = agreed
        for serial, name, kind, agreed in changed:
            if serial in self.life.serials(later):
                self.stands[serial] = changes[name]
        self.make = later

    def is_read_by_every_make(self):
        for make in range(len(self.life.makes)):
            self.case.assertEqual(read_by(self.house, self.make, make, self.some), self.due(make))


class TestWhole(unittest.TestCase):
    def test_bytes_go_from_hand_to_hand(self):
        source = random.Random(1)
        for kinds, times in [(SMALL, 60), (drawn_kinds(80), 12)]:
            for k in range(times):
                life = drawn_life(source, kinds)
                ledger = Ledger(self, source, life, life.lead(House))
                ledger.is_read_by_every_make()
                for step in range(10):
                    ledger.hand_on()
                    ledger.is_read_by_every_make()

    def test_an_earlier_hand_leaves_what_it_does_not_know(self):
        source = random.Random(2)
        for k in range(40):
            life = drawn_life(source, SMALL)
            house = life.lead(House)
            last = len(life.makes) - 1
            some = written(house, last, life.drawn_value(source, last))
            for b in range(last):
                handed = handed_on(house, last, b, some, life.drawn_value(source, b))
                both, unknown, gone = names_apart(house, last, b)
                for make in range(last + 1):
                    one, other = read_by(house, last, make, some), read_by(house, last, make, handed)
                    shared = names_apart(house, last, make)[0]
                    for name in one:
                        if name not in shared or name in unknown:
                            self.assertEqual(one[name], other[name])

    def test_a_house_goes_on_while_its_bytes_are_out(self):
        """Bytes of early makes are read by makes that come later than they do."""
        house = House([("a", N11, 1), ("b", N44, 2)])
        first = written(house, 0, {"a": 10, "b": 20})
        self.assertEqual(house.next_make([add("c", row(N22, 2), [3, 4]), drop("a")]), 1)
        second = handed_on(house, 0, 1, first, {"c": [30, 40]})
        self.assertEqual(read_by(house, 1, 0, second), {"a": 1, "b": 20})
        self.assertEqual(house.next_make([add("a", N88, 5)]), 2)
        third = handed_on(house, 1, 2, second, {"b": 21})
        self.assertEqual(read_by(house, 2, 2, third), {"b": 21, "c": [30, 40], "a": 5})
        fourth = handed_on(house, 2, 0, third, {"a": 99, "b": 22})
        self.assertEqual(read_by(house, 2, 2, fourth), {"b": 22, "c": [30, 40], "a": 5})
        self.assertEqual(read_by(house, 2, 1, fourth), {"b": 22, "c": [30, 40]})
        self.assertEqual(read_by(house, 2, 0, fourth), {"a": 1, "b": 22})
        self.assertEqual(read_by(house, 0, 2, first), {"b": 20, "c": [3, 4], "a": 5})
        self.assertEqual(fourth[house.places_of(0)["a"]], 10)
        self.assertEqual(steady_names(house, 0, 2), ["b"])

    def test_the_same_from_hand_to_hand_at_a_desk(self):
        source = random.Random(3)
        for k in range(25):
            desk = Desk()
            desk.say("house h")
            house = House([])
            for step in range(6):
                self.add_or_cut(source, desk, house)
            make, some = 0, "-"
            handed = []
            for step in range(8):
                b = source.randrange(house.how_many_makes())
                fields = house.fields_of(b)
                changed = [field for field in fields if source.random() < 0.5]
                changes = {name: drawn_value(source, kind) for name, kind, agreed in changed}
                shown = [f"{name} {show_value(kind, changes[name])}" for name, kind, agreed in changed]
                some = desk.say(f"hand h {make} {b} {some} = " + "{" + ", ".join(shown) + "}")
                handed = handed_on(house, make, b, handed, changes)
                make = max(make, b)
                self.assertEqual(read_bytes(some), handed)
                for reader in range(house.how_many_makes()):
                    told = desk.say(f"read h {make} {reader} {some}")
                    kind = ("record", [field[:2] for field in house.fields_of(reader)])
                    self.assertEqual(read_value(kind, told), read_by(house, make, reader, handed))

    def add_or_cut(self, source, desk, house):
        there = list(house.places_of(house.how_many_makes() - 1))
        if there and source.random() < 0.3:
            name = source.choice(there)
            desk.say(f"cut h {name}")
            house.next_make([drop(name)])
        else:
            name = source.choice([name for name in "abcdefgh" if name not in there])
            kind = source.choice(SMALL)
            agreed = drawn_value(source, kind)
            desk.say(f"add h {name} {show_kind(kind)} = {show_value(kind, agreed)}")
            house.next_make([add(name, kind, agreed)])

    def test_no_placing_of_new_fields_has_less_room(self):
        source = random.Random(4)
        for k in range(30):
            house = House([])
            lying = []
            for make in range(1, 4):
                kinds = [source.choice(SMALL[:32]) for field in range(source.randint(0, 3))]
                names = ["p" + name for name in "abc"[:len(kinds)]]
                old = list(house.places_of(make - 1))
                house.next_make([drop(name) for name in old] + [add(name, kind, 0) for name, kind in zip(names, kinds)])
                places = house.places_of(make)
                new = [(places[name], places[name] + kind[1]) for name, kind in zip(names, kinds)]
                end = max([behind for begin, behind in lying + new] + [0])
                if end > max([behind for begin, behind in lying] + [0]):
                    self.assertFalse(has_placing_below(kinds, sorted(lying), end))
                lying += new

    def test_through_texts_and_back(self):
        source = random.Random(5)
        for kind in drawn_kinds(120):
            value = drawn_value(source, kind)
            again = read_kind(show_kind(kind))
            some = read_bytes(show_bytes(bytes_of(again, read_value(again, show_value(kind, value)))))
            self.assertEqual(value_of(again, some), value)
            self.assertEqual(bytes_of(kind, value), some)

    def test_what_is_told_may_be_handed_in_and_spoilt(self):
        house = House([("a", read_kind("{x n1/1*2, y <n1/1, n4/4>}"), {"x": [1, 2], "y": (1, 3)}), ("b", N22, 4)])
        house.next_make([("add", "c") + house.fields_of(0)[0][1:]])
        before = told_of(house)
        told = []
        for a in range(2):
            value = read_by(house, 0, a, [0] * house.room_at(0))
            some = written(house, a, value)
            told += [value, some, names_apart(house, 0, a), steady_names(house, 0, a)]
            told += [read_by(house, a, b, some) for b in range(2)]
            told += [handed_on(house, a, b, some, read_by(house, a, b, some)) for b in range(2)]
        self.assertTrue(are_apart(told, before))
        spoil(told)
        self.assertEqual(told_of(house), before)

    def test_refusals_are_of_the_class_that_is_named(self):
        house = House([("a", N11, 1)])
        desk = Desk()
        refused = [
            (NoMake, lambda: House([("a", N11, 256)])), (NoMake, lambda: house.next_make([("drop", "b")])),
            (NoMake, lambda: house.fields_of(1)), (NoValue, lambda: bytes_of(N11, 256)),
            (NoBytes, lambda: value_of(N11, [256])),
            (NoMake, lambda: written(house, 1, None)), (NoValue, lambda: written(house, 0, None)),
            (NoMake, lambda: read_by(house, 0, 1, None)), (NoBytes, lambda: read_by(house, 0, 0, None)),
            (NoMake, lambda: handed_on(house, 1, 0, None, None)), (NoBytes, lambda: handed_on(house, 0, 0, None, None)),
            (NoValue, lambda: handed_on(house, 0, 0, [1], None)), (NoMake, lambda: names_apart(house, 0, 1)),
            (NoMake, lambda: steady_names(house, 1, 0)), (NoText, lambda: read_kind("")),
            (NoText, lambda: read_value(N11, "")),
            (NoText, lambda: read_bytes("")), (NoRow, lambda: desk.say("")), (NoName, lambda: desk.say("makes h")),
        ]
        for due, act in refused:
            with self.assertRaises(FieldError) as caught:
                act()
            self.assertIs(type(caught.exception), due)
            self.assertEqual(type(caught.exception).__bases__, (FieldError,))
            self.assertEqual(len(caught.exception.args), 1)
            self.assertIs(type(caught.exception.args[0]), str)
            self.assertEqual(str(caught.exception), caught.exception.args[0])


if __name__ == "__main__":
    unittest.main()
