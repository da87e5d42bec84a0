"""Promises 13 and 14: houses of makes."""
import itertools
import random
import unittest

from laidfields.errors import FieldError, NoMake
from laidfields.houses import House
from tests.samples import (
    STRANGE, WRONG_FORMS, Sullen, add, are_apart, choice, drawn_kinds, drawn_value, drop, has_placing_below,
    is_reckoned_placing, least_end_of_orders, next_multiple, number, reckoned, reckoned_end, record, row, spoil,
    told_of, wrapped,
)

N11, N18, N22, N31, N34, N44, N58, N88 = (
    number(*each) for each in [(1, 1), (1, 8), (2, 2), (3, 1), (3, 4), (4, 4), (5, 8), (8, 8)]
)
PAIR = record(N11, N44)
EITHER = choice(N11, N44)
SMALL = [number(w, m) for w in range(1, 9) for m in (1, 2, 4, 8)] + [PAIR, EITHER, row(N34, 2), choice(N11)]


def plain(names, kind=N11, agreed=0):
    return [(name, kind, agreed) for name in names]


def names_of(house, make):
    return [name for name, kind, agreed in house.fields_of(make)]


class Watcher:
    """A house and a second telling of it: what came and went, and where it lay when it came."""

    def __init__(self, case, fields):
        self.case = case
        self.there = []
        self.laid = []
        self.told = []
        self.house = House(fields)
        self.go_on([("add",) + field for field in fields])

    def next_make(self, changes):
        self.case.assertEqual(self.house.next_make(changes), len(self.told))
        self.go_on(changes)

    def go_on(self, changes):
        house, make, case = self.house, len(self.told), self.case
        for change in changes:
            if change[0] == "drop":
                self.there = [field for field in self.there if field[0] != change[1]]
            else:
                self.there.append(change[1:] + (None,))
        places = house.places_of(make)
        self.lay_new([(field[1], places[field[0]]) for field in self.there if field[3] is None])
        self.there = [field[:3] + (places[field[0]] if field[3] is None else field[3],) for field in self.there]
        case.assertEqual(house.fields_of(make), [field[:3] for field in self.there])
        case.assertEqual(places, {field[0]: field[3] for field in self.there})
        end = max([each[1] for each in self.laid] + [0])
        multiple = max([each[2] for each in self.laid] + [1])
        case.assertEqual(house.room_at(make), next_multiple(end, multiple))
        self.told.append((house.fields_of(make), places, house.room_at(make)))
        case.assertEqual(told_of(house), self.told)

    def lay_new(self, new):
        lying = sorted(each[:2] for each in self.laid)
        kinds = [kind for kind, place in new]
        places = [place for kind, place in new]
        self.case.assertTrue(is_reckoned_placing(kinds, lying, places))
        self.case.assertEqual(reckoned_end(kinds, lying, places), least_end_of_orders(kinds, lying))
        for kind, place in new:
            self.laid.append((place, place + reckoned(kind)[0], reckoned(kind)[1]))


class HouseCase(unittest.TestCase):
    def is_refused(self, act, *things):
        with self.assertRaises(FieldError) as caught:
            act(*things)
        self.assertIs(type(caught.exception), NoMake)

    def makes_none(self, house, changes):
        """The changes are refused, and the house tells all as before."""
        before = told_of(house)
        self.is_refused(house.next_make, changes)
        self.assertEqual(told_of(house), before)
        self.assertEqual(house.how_many_makes(), len(before))


# Fields that are none, or that can't stand beside a field "there" of one byte.
NO_FIELDS = [
    ("a",), (), ("a", N11), ("a", N11, 0, 0), ("a", N11, 0, None), ["a", N11, 0], {"a": N11}, "abc", "a", None, 0, True,
    ("a", 0, N11), (N11, "a", 0), (0, N11, "a"),
    ("", N11, 0), ("A", N11, 0), ("aB", N11, 0), ("abcdefghi", N11, 0), ("a1", N11, 0), ("a b", N11, 0),
    ("a\n", N11, 0), ("\u00e4", N11, 0), (b"a", N11, 0), (None, N11, 0), (1, N11, 0), (True, N11, 0),
    (["a"], N11, 0), (("a",), N11, 0),
    (Sullen(), N11, 0), ("there", N11, 0), ("there", N44, 5),
    ("a", N11, 256), ("a", N11, -1), ("a", N11, True), ("a", N11, None), ("a", N11, "0"), ("a", N11, [0]),
    ("a", N11, Sullen()), ("a", N22, 65536), ("a", row(N11, 2), [0]), ("a", row(N11, 2), (0, 0)),
    ("a", row(N11, 2), [0, 256]), ("a", row(N11, 2), [0, 0, 0]), ("a", PAIR, {"a": 0}), ("a", PAIR, [0, 0]),
    ("a", PAIR, {"a": 0, "b": 0, "c": 0}), ("a", PAIR, {"a": 0, "b": None}), ("a", EITHER, [0, 0]),
    ("a", EITHER, (2, 0)), ("a", EITHER, (0, 256)), ("a", EITHER, (True, 0)), ("a", EITHER, 0), ("a", EITHER, (0,)),
    ("a", number(0, 1), 0), ("a", number(9, 1), 0), ("a", number(1, 3), 0), ("a", number(1, True), 0),
    ("a", row(N11, 0), []), ("a", row(N11, 21), [0] * 21), ("a", ("record", []), {}), ("a", ("choice", []), (0, 0)),
    ("a", choice(*[N11] * 7), (0, 0)), ("a", record(*[N11] * 9), {name: 0 for name in "abcdefghi"}),
    ("a", wrapped(N11, [lambda kind: choice(kind)] * 5), wrapped(0, [lambda value: (0, value)] * 5)),
]
NO_FIELDS += [("a", thing, 0) for thing in WRONG_FORMS + STRANGE]
NO_FIELDS += [(thing, N11, 0) for thing in STRANGE if not isinstance(thing, str) or not thing.isalpha()]
NO_FIELDS += [("a", PAIR, thing) for thing in STRANGE] + STRANGE

NO_CHANGES = [("add",) + field for field in NO_FIELDS if isinstance(field, tuple)] + STRANGE + [
    ("add",), ("add", "a"), ("add", "a", N11), ["add", "a", N11, 0], ("Add", "a", N11, 0), ("adds", "a", N11, 0),
    ("", "a", N11, 0), (None, "a", N11, 0), (Sullen(), "a", N11, 0), (b"add", "a", N11, 0), ("a", N11, 0),
    ("add", ("a", N11, 0)), ("drop", "a", N11, 0), ("cut", "there"), ("Drop", "there"), ("drop",), ("drop", "there", 0),
    ["drop", "there"], ("drop", "a"), ("drop", "ther"), ("drop", ""), ("drop", "THERE"), ("drop", None), ("drop", 0),
    ("drop", True), ("drop", ["there"]), ("drop", ("there",)), ("drop", b"there"), ("drop", Sullen()), ("drop", {}),
    ("drop", 0, 0), (Sullen(), "there"), (None, "there"), ("there", "drop"), "drop there", {"drop": "there"},
    ("add", "there"), ("drop", "there", N11, 0), ("add", "a", N11, 0, 0),
]


class TestHouses(HouseCase):
    def test_an_empty_house(self):
        house = House([])
        self.assertEqual(house.how_many_makes(), 1)
        self.assertEqual((house.fields_of(0), house.places_of(0), house.room_at(0)), ([], {}, 0))
        self.assertEqual(house.next_make([]), 1)
        self.assertEqual(told_of(house), [([], {}, 0)] * 2)

    def test_one_field(self):
        for kind, value in [(N11, 255), (N34, 7), (N18, 1), (PAIR, {"a": 1, "b": 2}), (EITHER, (1, 500)),
                            (row(N34, 2), [1, 2])]:
            house = House([("a", kind, value)])
            room, multiple = reckoned(kind)[:2]
            self.assertEqual(told_of(house), [([("a", kind, value)], {"a": 0}, next_multiple(room, multiple))])

    def test_five_fields_and_six(self):
        for names in ["abcde", "edcba"]:
            house = House(plain(names))
            self.assertEqual(names_of(house, 0), list(names))
            self.assertEqual(sorted(house.places_of(0).values()), [0, 1, 2, 3, 4])
            self.assertEqual(house.room_at(0), 5)
        for count in range(6, 12):
            self.is_refused(House, plain("abcdefghijkl"[:count]))

    def test_names_alike(self):
        for one, other in itertools.combinations(range(5), 2):
            names = list("abcde")
            names[one] = names[other]
            self.is_refused(House, plain(names))
        self.is_refused(House, [("a", N11, 0), ("a", N44, 5)])

    def test_names_of_one_to_eight_small_letters(self):
        names = ["a", "z", "abcdefgh", "zzzzzzzz", "add"]
        self.assertEqual(names_of(House(plain(names)), 0), names)
        self.assertEqual(names_of(House(plain(["drop", "number"])), 0), ["drop", "number"])

    def test_fields_that_are_none(self):
        there = ("there", N11, 0)
        for field in NO_FIELDS:
            self.is_refused(House, [there, field])
            self.is_refused(House, [field, there])
            self.is_refused(House, [there, ("x", N11, 0), field, ("y", N44, 0)])

    def test_things_that_are_no_list_of_fields(self):
        some = plain("ab")
        for thing in [thing for thing in STRANGE if repr(thing) != "[]"] + [tuple(some), {"a": N11}, some[0], set()]:
            self.is_refused(House, thing)
        self.is_refused(House, [add("a")])
        self.is_refused(House, [some])

    def test_next_makes_by_hand(self):
        house = House([("a", N11, 1), ("b", N44, 2)])
        self.assertEqual(told_of(house)[0][1:], ({"a": 4, "b": 0}, 8))
        self.assertEqual(house.next_make([]), 1)
        self.assertEqual(house.next_make([add("c", N22, 3), add("d", N11, 4)]), 2)
        self.assertEqual(house.fields_of(2), [("a", N11, 1), ("b", N44, 2), ("c", N22, 3), ("d", N11, 4)])
        self.assertEqual(house.places_of(2), {"a": 4, "b": 0, "c": 6, "d": 5})
        self.assertEqual(house.room_at(2), 8)
        self.assertEqual(house.next_make([drop("b"), add("b", N11, 5)]), 3)
        self.assertEqual(house.fields_of(3), [("a", N11, 1), ("c", N22, 3), ("d", N11, 4), ("b", N11, 5)])
        self.assertEqual(house.places_of(3), {"a": 4, "c": 6, "d": 5, "b": 8})
        self.assertEqual(house.room_at(3), 12)
        self.assertEqual(house.next_make([drop("a"), drop("b"), drop("c"), drop("d")]), 4)
        self.assertEqual(told_of(house)[4], ([], {}, 12))
        self.assertEqual(house.next_make([add("a", N88, 6)]), 5)
        self.assertEqual(told_of(house)[5], ([("a", N88, 6)], {"a": 16}, 24))
        self.assertEqual([house.room_at(make) for make in range(6)], [8, 8, 8, 12, 12, 24])
        self.assertEqual(house.places_of(0), {"a": 4, "b": 0})
        self.assertEqual(house.how_many_makes(), 6)

    def test_what_one_list_adds_and_drops_is_not_laid(self):
        house = House(plain("a"))
        self.assertEqual(house.next_make([add("b", N88, 1), drop("b")]), 1)
        self.assertEqual(told_of(house)[1], told_of(house)[0])
        self.assertEqual(house.next_make([add("c"), add("b", N88, 1), drop("c"), drop("b"), add("c", N11, 9)]), 2)
        self.assertEqual(told_of(house)[2], ([("a", N11, 0), ("c", N11, 9)], {"a": 0, "c": 1}, 2))
        self.assertEqual(house.next_make([drop("a"), add("a"), drop("a")]), 3)
        self.assertEqual(told_of(house)[3], ([("c", N11, 9)], {"c": 1}, 2))
        self.assertEqual(house.next_make([add("a", N44, 7)]), 4)
        self.assertEqual(told_of(house)[4], ([("c", N11, 9), ("a", N44, 7)], {"c": 1, "a": 4}, 8))

    def test_what_one_list_adds_and_drops_counts_among_the_five(self):
        for times in range(1, 9):
            for start in [[], plain("x")]:
                house = House(start)
                changes = [each for k in range(times) for each in (add("a"), drop("a"))]
                if times > 5:
                    self.makes_none(house, changes)
                else:
                    self.assertEqual(house.next_make(changes), 1)
                    self.assertEqual(names_of(house, 1), ["x"] if start else [])
                if times >= 5:
                    self.makes_none(house, changes + [add("b")])
                else:
                    house.next_make(changes + [add("b")])

    def test_a_sixth_one_added(self):
        house = House(plain("xyz"))
        self.makes_none(house, [add(name) for name in "abcdef"])
        self.makes_none(house, [drop("x"), drop("y")] + [add(name) for name in "abcdef"])
        self.makes_none(house, [add(name) for name in "abcde"] + [drop("a"), add("a")])
        self.makes_none(house, [add(name) for name in "abcde"] + [drop("x"), add("x")])
        self.assertEqual(house.next_make([add(name) for name in "abcde"]), 1)
        self.assertEqual(names_of(house, 1), list("xyzabcde"))
        self.assertEqual(house.next_make([add(name) for name in "fghij"]), 2)
        self.assertEqual(names_of(house, 2), list("xyzabcdefghij"))

    def test_many_drops_in_one_list(self):
        house = House(plain("abcde"))
        house.next_make([add(name) for name in "fghij"])
        self.assertEqual(house.next_make([drop(name) for name in "jaibhcgdfe"]), 2)
        self.assertEqual(told_of(house)[2], ([], {}, 10))

    def test_a_name_dropped_and_added_anew(self):
        house = House([("a", N11, 1), ("b", N11, 2)])
        self.assertEqual(house.next_make([drop("a"), add("a", N11, 1)]), 1)
        self.assertEqual(house.fields_of(1), [("b", N11, 2), ("a", N11, 1)])
        self.assertEqual(house.places_of(1)["a"], 2)
        house.next_make([drop("a")])
        house.next_make([add("a", N11, 1)])
        house.next_make([drop("a"), add("a", N11, 1), drop("a"), add("a", N11, 1)])
        self.assertEqual([house.places_of(make).get("a") for make in (1, 2, 3, 4)], [2, None, 3, 4])
        self.assertEqual(house.room_at(4), 5)

    def test_one_by_one(self):
        house = House(plain("a"))
        self.makes_none(house, [add("a"), drop("a")])
        self.makes_none(house, [drop("a"), drop("a")])
        self.makes_none(house, [drop("b"), add("b")])
        self.makes_none(house, [add("b"), add("b")])
        self.makes_none(house, [add("b"), drop("b"), drop("b")])
        self.makes_none(house, [add("b"), add("b"), drop("b")])
        self.makes_none(house, [drop("a"), add("a"), add("a")])
        house.next_make([drop("a")])
        self.makes_none(house, [drop("a")])

    def test_changes_that_are_none(self):
        house = House(plain(["there"]))
        for change in NO_CHANGES:
            self.makes_none(house, [change])
        self.assertEqual(house.how_many_makes(), 1)

    def test_changes_that_are_none_at_any_place(self):
        house = House(plain(["there", "x"]))
        house.next_make([add("y", N44), drop("x")])
        good = [drop("y"), add("y", N22), add("z", PAIR, {"a": 1, "b": 2})]
        for change in NO_CHANGES:
            for k in range(4):
                self.makes_none(house, good[:k] + [change] + good[k:])
        self.assertEqual(house.next_make(good), 2)
        self.assertEqual(names_of(house, 2), ["there", "y", "z"])

    def test_things_that_are_no_list_of_changes(self):
        house = House(plain("a"))
        for thing in STRANGE + [(), (drop("a"),), drop("a"), {drop("a"): 1}, {"drop": "a"}, "drop", [[drop("a")]]]:
            if repr(thing) != "[]":
                self.makes_none(house, thing)

    def test_what_is_refused_does_not_hang_behind(self):
        one = House(plain("ab"))
        other = House(plain("ab"))
        for house in [one, other]:
            house.next_make([add("c", N44), drop("a")])
            if house is other:
                self.makes_none(house, [drop("b"), add("d", N88), add("e", N31), None])
                self.makes_none(house, [add("d", N88), drop("d"), drop("d")])
            house.next_make([add("d", N22), add("e", N31)])
        self.assertEqual(told_of(other), told_of(one))


class TestMakes(HouseCase):
    def test_drawn_houses(self):
        source = random.Random(1)
        for k in range(150):
            self.drawn_house(source, SMALL)

    def test_drawn_houses_of_larger_kinds(self):
        source = random.Random(2)
        kinds = drawn_kinds(120)
        for k in range(25):
            self.drawn_house(source, kinds)

    def drawn_house(self, source, kinds):
        """A house of at most eight makes with at most twenty fields in all."""
        left = 20 - source.randint(0, 5)
        watcher = Watcher(self, [change[1:] for change in self.drawn_adds(source, kinds, [], 20 - left)])
        for make in range(7):
            there = names_of(watcher.house, make)
            changes = [drop(name) for name in there if source.random() < 0.3]
            there = [name for name in there if drop(name) not in changes]
            count = min(left, source.choice([0, 1, 2, 5]))
            left -= count
            adds = self.drawn_adds(source, kinds, there, count)
            changes += adds
            if adds and source.random() < 0.3:
                changes.append(drop(source.choice(adds)[1]))
            watcher.next_make(changes)

    def drawn_adds(self, source, kinds, there, count):
        free = [name for name in ["dd", "longname"] + list("abcefghijklmnopqrstuvwxyz") if name not in there]
        # Few free names: so that some are added anew.
        names = source.sample(free[:6], count)
        chosen = [source.choice(kinds) for name in names]
        return [add(name, kind, drawn_value(source, kind)) for name, kind in zip(names, chosen)]

    def test_new_ones_are_put_into_holes(self):
        source = random.Random(3)
        for k in range(60):
            kinds = [source.choice(SMALL) for field in range(source.randint(1, 4))]
            house = House([(name, N18, 0) for name in "vwxyz"])
            new = [(name, kind, drawn_value(source, kind)) for name, kind in zip("abcd", kinds)]
            house.next_make([("add",) + field for field in new])
            lying = [(8 * each, 8 * each + 1) for each in range(5)]
            places = house.places_of(1)
            ends = [places[name] + reckoned(kind)[0] for name, kind, agreed in new]
            self.assertFalse(has_placing_below(kinds, lying, max(ends + [33])))
            self.assertEqual(house.room_at(1), next_multiple(max(ends + [33]), 8))

    def test_bytes_of_dropped_ones_are_not_used_again(self):
        house = House(plain("abcde"))
        house.next_make([drop(name) for name in "abcde"])
        house.next_make([add(name) for name in "abcde"])
        self.assertEqual(sorted(house.places_of(2).values()), [5, 6, 7, 8, 9])
        self.assertEqual([house.room_at(make) for make in range(3)], [5, 5, 10])

    def test_a_field_lies_over_all_its_room(self):
        house = House([("a", PAIR, {"a": 0, "b": 0})])
        house.next_make([add("b"), add("c")])
        self.assertEqual(sorted(house.places_of(1).values()), [0, 8, 9])
        house = House([("a", EITHER, (0, 0)), ("b", row(N34, 1), [0])])
        house.next_make([add("c")])
        self.assertEqual(house.places_of(1)["c"], 12)
        house = House([("a", N34, 0)])
        house.next_make([add("b")])
        self.assertEqual((house.places_of(1), house.room_at(1)), ({"a": 0, "b": 3}, 4))

    def test_rooms_are_rounded_up_to_the_greatest_multiple_of_all_that_was_laid(self):
        house = House([("a", N18, 0)])
        self.assertEqual(house.room_at(0), 8)
        house.next_make([drop("a")])
        self.assertEqual(house.room_at(1), 8)
        house.next_make([add("b", row(N11, 8), [0] * 8)])
        self.assertEqual((house.places_of(2), house.room_at(2)), ({"b": 1}, 16))
        house = House(plain("ab"))
        house.next_make([add("c", N22)])
        house.next_make([add("d", N31)])
        house.next_make([add("e", N44), drop("e")])
        self.assertEqual([house.room_at(make) for make in range(4)], [2, 4, 8, 8])
        house.next_make([add("e", N18)])
        self.assertEqual([house.room_at(make) for make in range(5)], [2, 4, 8, 8, 16])

    def test_a_make_that_is_none(self):
        house = House(plain("ab"))
        house.next_make([add("c")])
        house.next_make([])
        wrong = [3, 4, -1, -2, -3, 10 ** 40, -10 ** 40, "0", "1", (0,), [0], [], {0: 0}]
        for ask in [house.fields_of, house.places_of, house.room_at]:
            for make in wrong + [thing for thing in STRANGE if repr(thing) not in ("0", "1")]:
                self.is_refused(ask, make)
            for make in range(3):
                ask(make)
        self.assertEqual(house.how_many_makes(), 3)

    def test_kinds_of_what_is_told(self):
        house = House([("a", PAIR, {"a": 1, "b": 2}), ("b", EITHER, (1, 5)), ("c", row(N34, 2), [1, 2])])
        house.next_make([add("d")])
        for make in range(2):
            told = house.fields_of(make)
            self.assertIs(type(told), list)
            self.assertEqual({type(field) for field in told}, {tuple})
            self.assertIs(type(house.places_of(make)), dict)
            self.assertEqual({type(place) for place in house.places_of(make).values()}, {int})
            self.assertIs(type(house.room_at(make)), int)
        self.assertIs(type(house.next_make([])), int)
        self.assertIs(type(house.how_many_makes()), int)
        self.assertEqual([type(part) for part in told[0]], [str, tuple, dict])
        self.assertEqual([type(part) for part in told[1][1]], [str, list])
        self.assertIs(type(told[1][2]), tuple)

    def deep_fields(self):
        inner = [("x", N11), ("y", row(choice(N22, N31), 2))]
        kind = ("record", [("p", ("record", inner)), ("q", ("record", inner))])
        value = {"x": 1, "y": [(0, 2), (1, 3)]}
        return [("a", kind, {"p": value, "q": value}), ("b", kind, {"q": value, "p": value})]

    def test_what_is_told_is_the_asker_s_own(self):
        house = House(self.deep_fields())
        house.next_make([("add", "c") + self.deep_fields()[0][1:]])
        house.next_make([])
        told = [told_of(house) for k in range(3)]
        self.assertTrue(are_apart(*told))
        self.assertEqual(told[0], told[1])
        spoil(told[0])
        self.assertNotEqual(told[0], told[1])
        self.assertEqual(told_of(house), told[1])
        house.next_make([add("d")])
        self.assertEqual(told_of(house)[:3], told[1])

    def test_what_is_handed_in_is_kept_as_a_copy(self):
        fields = self.deep_fields()
        house = House(fields)
        due = [(self.deep_fields(), {"a": house.places_of(0)["a"], "b": house.places_of(0)["b"]}, house.room_at(0))]
        self.assertEqual(told_of(house), due)
        spoil(fields)
        self.assertEqual(told_of(house), due)
        changes = [("add", "c") + self.deep_fields()[0][1:], drop("a")]
        house.next_make(changes)
        told = told_of(house)
        self.assertEqual(told[1][0], self.deep_fields()[1:] + [("c",) + self.deep_fields()[0][1:]])
        spoil(changes)
        self.assertEqual(told_of(house), told)

    def test_what_was_handed_in_stays(self):
        fields = self.deep_fields()
        changes = [("add", "c") + self.deep_fields()[0][1:], drop("a"), add("a")]
        before = repr((fields, changes))
        house = House(fields)
        house.next_make(changes)
        told_of(house)
        self.assertEqual(repr((fields, changes)), before)
        wrong = changes + [None]
        before = repr(wrong)
        self.makes_none(house, wrong)
        self.assertEqual(repr(wrong), before)

    def test_what_is_told_may_be_handed_in(self):
        house = House(self.deep_fields())
        other = House(house.fields_of(0))
        self.assertEqual(told_of(other), told_of(house))
        other.next_make([("add", "c") + other.fields_of(0)[0][1:]])
        self.assertTrue(are_apart(told_of(house), told_of(other)))
        self.assertEqual(other.fields_of(1)[2][1:], house.fields_of(0)[0][1:])

    def test_houses_are_apart(self):
        one, other = House([]), House([])
        one.next_make([add("a")])
        self.assertEqual(told_of(other), [([], {}, 0)])
        self.assertEqual(other.next_make([add("b", N44, 5)]), 1)
        self.assertEqual(told_of(one)[1], ([("a", N11, 0)], {"a": 0}, 1))

    def test_the_same_asked_again_is_answered_the_same(self):
        source = random.Random(4)
        for k in range(20):
            adds = [[add(name, source.choice(SMALL[:32]), 0) for name in names] for names in ("abcde", "fghi", "jkl")]
            houses = [House([each[1:] for each in adds[0]]) for twin in range(2)]
            for house in houses:
                house.next_make(adds[1] + [drop("c")])
                told_of(house)
                house.next_make(adds[2] + [drop("f"), drop("a")])
            self.assertEqual(told_of(houses[0]), told_of(houses[1]))
            self.assertEqual(told_of(houses[0]), told_of(houses[0]))

    def test_nothing_is_refused_for_lying_somewhat_beyond_the_bounds(self):
        house = House(plain("abcde"))
        for make in range(1, 12):
            changes = [drop("a"), drop("b"), add("a", N22), add("b")] if make > 1 else [drop("a"), add("a", N22)]
            self.assertEqual(house.next_make(changes), make)
        self.assertEqual(house.how_many_makes(), 12)
        self.assertEqual(names_of(house, 11), ["c", "d", "e", "a", "b"])
        large = row(row(N88, 20), 20)
        house = House([("a", large, [[1] * 20] * 20), ("b", N11, 0)])
        self.assertEqual(house.room_at(0), 3208)


if __name__ == "__main__":
    unittest.main()
