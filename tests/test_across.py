"""Promises 15 and 16: bytes of one make, written, read by every other one, and handed on."""
import random
import unittest

from laidfields.across import handed_on, read_by, written
from laidfields.errors import FieldError, NoBytes, NoMake, NoValue
from laidfields.houses import House
from laidfields.values import bytes_of
from tests.samples import (
    STRANGE, Alike, Life, Sullen, add, are_apart, are_same, choice, drawn_kinds, drawn_life, drawn_value, drop, number,
    reckoned, reckoned_spots, record, row, spoil, told_of,
)

N11, N22, N34, N44, N88 = (number(*each) for each in [(1, 1), (2, 2), (3, 4), (4, 4), (8, 8)])
PAIR = record(N11, N44)
EITHER = choice(N11, N44)
SMALL = [number(w, m) for w in range(1, 9) for m in (1, 2, 4, 8)]
SMALL += [PAIR, EITHER, row(N34, 2), choice(N11), row(PAIR, 2)]


def is_whole(thing):
    return isinstance(thing, int) and not isinstance(thing, bool)


def by_hand():
    """Each of its placings is the only one with the least end, so that the bytes can be told here:
    make 0: a at 4, b at 0, room 8; make 1: a at 4, c at 6, room 8; make 2: a at 4, c at 6, another b at 5,
    room 8; make 3: c at 6, b at 5, d at 8, room 16; make 4: nothing, room 16."""
    house = House([("a", N11, 1), ("b", N44, 2)])
    house.next_make([drop("b"), add("c", N22, 3)])
    house.next_make([add("b", N11, 9)])
    house.next_make([drop("a"), add("d", N88, 7)])
    house.next_make([drop("b"), drop("c"), drop("d")])
    return house


def deep():
    """A house whose fields have idle bytes, marks, lists and dicts within."""
    house = House([("a", PAIR, {"a": 1, "b": 2}), ("b", EITHER, (0, 3)), ("c", row(row(N11, 2), 2), [[1, 2], [3, 4]])])
    house.next_make([add("d", row(PAIR, 2), [{"a": 5, "b": 6}] * 2), drop("b")])
    house.next_make([add("b", choice(row(N11, 3), EITHER), (0, [7, 8, 9])), add("e", N34, 0), drop("c")])
    return house


NO_MAKES = [3, 4, -1, -2, -3, 10 ** 40, -10 ** 40, "0", "1", (0,), [0], [], {0: 0}]
NO_MAKES += [thing for thing in STRANGE if not (is_whole(thing) and 0 <= thing < 3)]


class AcrossCase(unittest.TestCase):
    def is_refused(self, due, act, house, *things):
        """The refusal is of just this class, and neither the house nor what is handed in is changed."""
        before = (told_of(house), repr(things))
        with self.assertRaises(FieldError) as caught:
            act(house, *things)
        self.assertIs(type(caught.exception), due, (act, repr(things)[:200]))
        self.assertEqual((told_of(house), repr(things)), before)

    def are_bytes(self, told, due):
        self.assertIs(type(told), list)
        self.assertTrue(all(type(byte) is int for byte in told))
        self.assertEqual(told, due)


class TestWritten(AcrossCase):
    def test_by_hand(self):
        house = by_hand()
        due = [
            (0, {"a": 1, "b": 0x04030201}, [1, 2, 3, 4, 1, 0, 0, 0]),
            (0, {"b": 255, "a": 0}, [255] + [0] * 7),
            (1, {"a": 5, "c": 0x0201}, [0, 0, 0, 0, 5, 0, 1, 2]),
            (2, {"b": 7, "c": 0x0201, "a": 5}, [0, 0, 0, 0, 5, 7, 1, 2]),
            (3, {"c": 0x0201, "b": 7, "d": 256}, [0, 0, 0, 0, 0, 7, 1, 2, 0, 1] + [0] * 6),
            (3, {"c": 65535, "b": 255, "d": 256 ** 8 - 1}, [0] * 5 + [255] * 11),
            (4, {}, [0] * 16),
        ]
        for make, value, some in due:
            self.are_bytes(written(house, make, value), some)

    def test_an_empty_house(self):
        house = House([])
        self.are_bytes(written(house, 0, {}), [])
        self.is_refused(NoMake, written, house, 1, {})
        self.is_refused(NoValue, written, house, 0, {"a": 0})

    def test_drawn_houses(self):
        source = random.Random(1)
        for kinds, times in [(SMALL, 40), (drawn_kinds(60), 10)]:
            for k in range(times):
                life = drawn_life(source, kinds)
                house = life.lead(House)
                for make in range(len(life.makes)):
                    value = life.drawn_value(source, make)
                    told = written(house, make, value)
                    self.are_bytes(told, life.written(house, make, value))
                    self.assertEqual(len(told), house.room_at(make))

    def test_a_make_that_is_none_goes_first(self):
        house = deep()
        for make in NO_MAKES:
            for thing in [house.fields_of(0), {}, None, Sullen()]:
                self.is_refused(NoMake, written, house, make, thing)

    def test_things_that_are_no_value_of_the_make(self):
        house = by_hand()
        good = {"a": 5, "c": 513, "b": 7}
        wrong = [thing for thing in STRANGE if repr(thing) != "{}"]
        wrong += [{}, [5, 513, 7], [("a", 5), ("c", 513), ("b", 7)], ("a", "c", "b"), {"a": 5, "c": 513}]
        wrong += [{**good, "d": 0}, {**good, "A": 0}, {**good, 1: 0}, {**good, None: 0}, {**good, ("a",): 0}]
        for name in good:
            less = {other: good[other] for other in good if other != name}
            wrong += [less, {**less, "x": 1}, {**less, name + " ": 1}, {**less, name.upper(): 1}, {**less, b"a": 1}]
            wrong += [{**less, name: thing} for thing in STRANGE if not (is_whole(thing) and 0 <= thing <= 255)]
            wrong += [{**less, name: thing} for thing in [-1, 65536, 256 ** 4, True, "5", [5], (5,), {"a": 5}, None]]
        wrong += [{**good, "a": 256}, {**good, "b": 256}, {"a": 1, "b": 2 ** 24}]
        wrong += [{Alike("a"): 5, "c": 513, "b": 7}, {"b": 7, "c": 513, Alike("a"): 5}]
        for thing in wrong:
            self.is_refused(NoValue, written, house, 2, thing)
        self.are_bytes(written(house, 2, good), [0, 0, 0, 0, 5, 7, 1, 2])
        for thing in STRANGE:
            if repr(thing) != "{}":
                self.is_refused(NoValue, written, house, 4, thing)

    def test_a_value_of_another_make(self):
        house = by_hand()
        values = [{"a": 1, "b": 1}, {"a": 1, "c": 1}, {"a": 1, "c": 1, "b": 1}, {"c": 1, "b": 1, "d": 1}, {}]
        for make in range(5):
            for other, value in enumerate(values):
                if make == other:
                    written(house, make, value)
                else:
                    self.is_refused(NoValue, written, house, make, value)

    def test_what_is_handed_in_stays_and_what_is_told_is_new(self):
        source = random.Random(2)
        for k in range(10):
            life = drawn_life(source, SMALL)
            house = life.lead(House)
            before = told_of(house)
            for make in range(len(life.makes)):
                value = life.drawn_value(source, make)
                shown = repr(value)
                one, other = written(house, make, value), written(house, make, value)
                self.assertEqual(repr(value), shown)
                self.assertTrue(are_apart(one, other, value))
                self.assertEqual(one, other)
                spoil(one)
                spoil(value)
                self.assertEqual(other, written(house, make, read_by(house, make, make, other)))
            self.assertEqual(told_of(house), before)


class TestReadBy(AcrossCase):
    def is_read(self, told, due):
        self.assertEqual(told, due)
        self.assertTrue(are_same(told, due), (told, due))

    def test_by_hand(self):
        house = by_hand()
        some = [1, 2, 3, 4, 5, 6, 7, 8]
        more = some + [9, 0, 0, 0, 0, 0, 0, 1]
        due = [
            (0, 0, some, {"a": 5, "b": 0x04030201}), (0, 1, some, {"a": 5, "c": 3}),
            (0, 2, some, {"a": 5, "c": 3, "b": 9}), (0, 3, some, {"c": 3, "b": 9, "d": 7}), (0, 4, some, {}),
            (1, 0, some, {"a": 5, "b": 2}), (1, 1, some, {"a": 5, "c": 0x0807}),
            (1, 2, some, {"a": 5, "c": 0x0807, "b": 9}), (1, 3, some, {"c": 0x0807, "b": 9, "d": 7}),
            (2, 0, some, {"a": 5, "b": 2}), (2, 1, some, {"a": 5, "c": 0x0807}),
            (2, 2, some, {"a": 5, "c": 0x0807, "b": 6}), (2, 3, some, {"c": 0x0807, "b": 6, "d": 7}),
            (3, 0, more, {"a": 1, "b": 2}), (3, 1, more, {"a": 1, "c": 0x0807}),
            (3, 2, more, {"a": 1, "c": 0x0807, "b": 6}), (3, 3, more, {"c": 0x0807, "b": 6, "d": 256 ** 7 + 9}),
            (3, 4, more, {}), (4, 0, more, {"a": 1, "b": 2}), (4, 2, more, {"a": 1, "c": 3, "b": 9}),
            (4, 3, more, {"c": 3, "b": 9, "d": 7}), (4, 4, more, {}),
        ]
        for a, b, thing, value in due:
            self.is_read(read_by(house, a, b, thing), value)

    def test_an_empty_house(self):
        house = House([])
        house.next_make([add("a", N22, 5)])
        self.is_read(read_by(house, 0, 0, []), {})
        self.is_read(read_by(house, 0, 1, []), {"a": 5})
        self.is_read(read_by(house, 1, 0, [1, 2]), {})

    def test_one_name_of_several_fields(self):
        house = House([("a", N11, 1)])
        for agreed in [2, 3]:
            house.next_make([drop("a"), add("a", N11, agreed)])
        some = [[10], [0, 11], [0, 0, 12]]
        for a in range(3):
            for b in range(3):
                self.is_read(read_by(house, a, b, some[a]), {"a": 10 + a if a == b else 1 + b})

    def test_drawn_houses_read_by_every_make(self):
        source = random.Random(3)
        for kinds, times in [(SMALL, 40), (drawn_kinds(60), 8)]:
            for k in range(times):
                life = drawn_life(source, kinds)
                house = life.lead(House)
                for a in range(len(life.makes)):
                    value = life.drawn_value(source, a)
                    some = life.written(house, a, value)
                    for b in range(len(life.makes)):
                        self.is_read(read_by(house, a, b, some), life.read(a, b, value))

    def test_other_bytes_are_not_looked_at(self):
        source = random.Random(4)
        for k in range(40):
            life = drawn_life(source, SMALL)
            house = life.lead(House)
            for a in range(len(life.makes)):
                value = life.drawn_value(source, a)
                noise = [source.randint(0, 255) for byte in range(house.room_at(a))]
                some = life.laid_over(noise, house, a, value)
                for b in range(len(life.makes)):
                    self.is_read(read_by(house, a, b, some), life.read(a, b, value))

    def test_a_make_that_is_none_goes_first(self):
        house = deep()
        right = [0] * house.room_at(0)
        for make in NO_MAKES:
            for thing in [right, [0], None, Sullen()]:
                self.is_refused(NoMake, read_by, house, make, 0, thing)
                self.is_refused(NoMake, read_by, house, 0, make, thing)
            self.is_refused(NoMake, read_by, house, make, make, right)

    def test_things_that_are_no_bytes(self):
        house = by_hand()
        for a in range(5):
            room = house.room_at(a)
            wrong = STRANGE + [(0,) * room, b"\0" * room, "0" * room, {k: 0 for k in range(room)}, range(room)]
            wrong += [[0] * count for count in range(30) if count != room] + [[[0] * room], [0] * 2000]
            for place in range(room):
                for thing in [256, -1, True, False, None, "0", [0], (0,), 10 ** 40, Sullen()]:
                    wrong.append([0] * place + [thing] + [0] * (room - place - 1))
            for b in range(5):
                for thing in wrong:
                    self.is_refused(NoBytes, read_by, house, a, b, thing)

    def test_bytes_of_the_empty_make(self):
        house = House([])
        for thing in STRANGE + [[0], [None], {}, ()]:
            if repr(thing) != "[]":
                self.is_refused(NoBytes, read_by, house, 0, 0, thing)

    def test_each_byte_of_a_field_that_reads_none(self):
        """Whether or not the reader has the field: its idle bytes, and its marks, are looked at."""
        source = random.Random(5)
        for k in range(12):
            life = drawn_life(source, SMALL[32:])
            house = life.lead(House)
            for a in range(len(life.makes)):
                value = life.drawn_value(source, a)
                some = life.written(house, a, value)
                for serial, name, kind, agreed in life.makes[a]:
                    begin = house.places_of(a)[name]
                    spots = {begin + place: count for place, byte, count in reckoned_spots(kind, value[name])}
                    for place in range(begin, begin + reckoned(kind)[0]):
                        wrong = list(some)
                        wrong[place] = 200
                        for b in range(len(life.makes)):
                            if spots.get(place) == 0:
                                read_by(house, a, b, wrong)
                            else:
                                self.is_refused(NoBytes, read_by, house, a, b, wrong)

    def test_what_is_told_is_the_asker_s_own(self):
        house = deep()
        values = [
            {"a": {"a": 9, "b": 9}, "b": (1, 9), "c": [[9, 8], [7, 6]]},
            {"a": {"a": 9, "b": 9}, "c": [[9, 8], [7, 6]], "d": [{"a": 9, "b": 8}, {"a": 7, "b": 6}]},
            {"a": {"a": 9, "b": 9}, "d": [{"a": 9, "b": 8}, {"a": 7, "b": 6}], "b": (1, (1, 5)), "e": 3},
        ]
        for a, value in enumerate(values):
            some = written(house, a, value)
            shown = repr(some)
            told = [[read_by(house, a, b, some) for b in range(3)] for k in range(3)]
            self.assertTrue(are_apart(told, some, value))
            self.assertEqual(told[0], told[1])
            spoil(told[0])
            self.assertEqual([read_by(house, a, b, some) for b in range(3)], told[1])
            self.assertEqual(repr(some), shown)
            due = read_by(house, a, 2, some)
            spoil(some)
            self.assertEqual(due, told[1][2])
        self.assertEqual(read_by(house, 0, 2, [0] * house.room_at(0))["d"], [{"a": 5, "b": 6}] * 2)
        self.assertEqual(told_of(house), told_of(deep()))

    def test_what_is_told_may_be_handed_in(self):
        house = deep()
        some = written(house, 0, {"a": {"a": 9, "b": 9}, "b": (1, 9), "c": [[9, 8], [7, 6]]})
        for b in range(3):
            value = read_by(house, 0, b, some)
            again = written(house, b, value)
            self.assertEqual(read_by(house, b, b, again), value)
            self.assertEqual(handed_on(house, b, b, again, value), again)
            house.next_make([])


class TestHandedOn(AcrossCase):
    def test_by_hand(self):
        house = by_hand()
        some = [1, 2, 3, 4, 5, 6, 7, 8]
        more = some + [9, 0, 0, 0, 0, 0, 0, 1]
        agreed = [7, 0, 0, 0, 0, 0, 0, 0]
        due = [
            # One make.
            (0, 0, some, {}, some), (0, 0, some, {"a": 200}, [1, 2, 3, 4, 200, 6, 7, 8]),
            (0, 0, some, {"b": 256, "a": 0}, [0, 1, 0, 0, 0, 6, 7, 8]),
            (2, 2, some, {"b": 0}, [1, 2, 3, 4, 5, 0, 7, 8]),
            # An earlier hand: what it doesn't know stays, and its own b is no other one's.
            (2, 0, some, {}, some), (2, 0, some, {"a": 200, "b": 77}, [1, 2, 3, 4, 200, 6, 7, 8]),
            (2, 1, some, {"c": 256, "a": 0}, [1, 2, 3, 4, 0, 6, 0, 1]), (1, 0, some, {"b": 77}, some),
            (3, 0, more, {"a": 200, "b": 77}, more),
            (3, 2, more, {"a": 1, "b": 2, "c": 3}, [1, 2, 3, 4, 5, 2, 3, 0] + more[8:]),
            (4, 3, more, {"b": 1, "c": 1, "d": 1}, more),
            # A later hand: what the bytes lack is as agreed, or as changed; dropped ones' bytes stay.
            (0, 1, some, {}, [1, 2, 3, 4, 5, 6, 3, 0]), (0, 2, some, {}, [1, 2, 3, 4, 5, 9, 3, 0]),
            (0, 2, some, {"b": 77}, [1, 2, 3, 4, 5, 77, 3, 0]), (0, 2, some, {"a": 0}, [1, 2, 3, 4, 0, 9, 3, 0]),
            (1, 2, some, {}, [1, 2, 3, 4, 5, 9, 7, 8]), (1, 2, some, {"c": 1}, [1, 2, 3, 4, 5, 9, 1, 0]),
            (0, 3, some, {}, [1, 2, 3, 4, 5, 9, 3, 0] + agreed), (2, 3, some, {}, some + agreed),
            (2, 3, some, {"d": 258, "b": 0}, [1, 2, 3, 4, 5, 0, 7, 8, 2, 1] + [0] * 6),
            (2, 4, some, {}, some + [0] * 8), (3, 4, more, {}, more),
        ]
        for a, b, thing, changes, handed in due:
            self.are_bytes(handed_on(house, a, b, thing, changes), handed)

    def test_an_empty_house(self):
        house = House([])
        house.next_make([add("a", N22, 5)])
        self.are_bytes(handed_on(house, 0, 0, [], {}), [])
        self.are_bytes(handed_on(house, 0, 1, [], {}), [5, 0])
        self.are_bytes(handed_on(house, 0, 1, [], {"a": 258}), [2, 1])
        self.are_bytes(handed_on(house, 1, 0, [2, 1], {}), [2, 1])

    def test_a_room_that_grows_without_a_field_there(self):
        house = House([("a", N11, 0)])
        house.next_make([add("b", N88, 5)])
        house.next_make([drop("b"), add("c", N11, 6)])
        self.are_bytes(handed_on(house, 0, 2, [3], {"a": 4}), written(house, 2, {"a": 4, "c": 6}))
        self.assertEqual(house.room_at(2), 24 if house.places_of(2)["c"] >= 16 else 16)

    def drawn_changes(self, source, life, b):
        return {name: drawn_value(source, kind) for serial, name, kind,
                agreed in life.makes[b] if source.random() < 0.5}

    def are_handed(self, source, kinds):
        life = drawn_life(source, kinds)
        house = life.lead(House)
        for a in range(len(life.makes)):
            value = life.drawn_value(source, a)
            noise = [source.randint(0, 255) for byte in range(house.room_at(a))]
            some = life.laid_over(noise, house, a, value)
            for b in range(len(life.makes)):
                later = max(a, b)
                changes = self.drawn_changes(source, life, b)
                told = handed_on(house, a, b, some, changes)
                due = some + [0] * (house.room_at(later) - len(some))
                due = life.laid_over(due, house, later, life.handed(a, b, value, changes))
                self.are_bytes(told, due)
                self.assertEqual(len(told), house.room_at(later))
                self.are_read_as_before(life, house, a, b, some, told)

    def are_read_as_before(self, life, house, a, b, some, told):
        """Fields that the hand doesn't know, by whichever make knows them."""
        known = life.serials(b)
        for make in range(len(life.makes)):
            one, other = read_by(house, a, make, some), read_by(house, max(a, b), make, told)
            for serial, name, kind, agreed in life.makes[make]:
                if serial in life.serials(max(a, b)) and serial not in known:
                    self.assertEqual(one[name], other[name])

    def test_drawn_houses(self):
        source = random.Random(6)
        for kinds, times in [(SMALL, 40), (drawn_kinds(60), 8)]:
            for k in range(times):
                self.are_handed(source, kinds)

    def test_a_make_that_is_none_goes_first(self):
        house = deep()
        right = bytes_of(N11, 0) * house.room_at(0)
        for make in NO_MAKES:
            for thing, changes in [(right, {}), ([0], None), (None, {"x": 1}), (Sullen(), Sullen())]:
                self.is_refused(NoMake, handed_on, house, make, 0, thing, changes)
                self.is_refused(NoMake, handed_on, house, 0, make, thing, changes)
            self.is_refused(NoMake, handed_on, house, make, make, right, {})

    def test_bytes_that_are_none_go_before_values_that_are_none(self):
        house = deep()
        for a in range(3):
            room = house.room_at(a)
            begin = house.places_of(a)["a"]
            wrong = STRANGE + [[0] * (room - 1), [0] * (room + 1), (0,) * room, [0] * (room - 1) + [256]]
            wrong += [[True] + [0] * (room - 1), [0] * begin + [1, 1] + [0] * (room - begin - 2)]
            for b in range(3):
                for thing in wrong:
                    for changes in [{}, {"a": {"a": 1, "b": 2}}, {"x": 1}, {"a": 0}, None, [], Sullen()]:
                        self.is_refused(NoBytes, handed_on, house, a, b, thing, changes)

    def test_changes_that_are_none(self):
        house = by_hand()
        names = ["ab", "ac", "acb", "cbd", ""]
        for a in range(5):
            some = [0] * house.room_at(a)
            for b in range(5):
                good = {name: 1 for name in names[b]}
                wrong = [thing for thing in STRANGE if repr(thing) not in ("{}", "{'a': 1}")]
                wrong += [{**good, name: 1} for name in "abcd" if name not in names[b]]
                wrong += [{**good, key: 1} for key in ["x", "", "A", "a ", "ab", 0, None, ("a",), b"a", True]]
                wrong += [[], (), [("a", 1)], list(good), tuple(good)] if good else [[], ()]
                wrong += [{Alike("a"): 1}, {Alike("b"): 1, "x": 1}]
                for name in names[b]:
                    wrong += [{**good, name: thing} for thing in STRANGE if not (is_whole(thing) and 0 <= thing < 256)]
                    wrong += [{name: thing} for thing in [-1, 256 ** 8, True, None, "1", [1], (1,)]]
                for changes in wrong:
                    self.is_refused(NoValue, handed_on, house, a, b, some, changes)
                self.assertEqual(len(handed_on(house, a, b, some, good)), house.room_at(max(a, b)))

    def test_the_value_of_a_change_that_changes_nothing_is_looked_at(self):
        house = by_hand()
        some = [1, 2, 3, 4, 5, 6, 7, 8]
        # The b of make 0 has four bytes, the one of make 2 has one.
        self.are_bytes(handed_on(house, 2, 0, some, {"b": 256 ** 4 - 1}), some)
        for value in [256 ** 4, -1, True, None, [1]]:
            self.is_refused(NoValue, handed_on, house, 2, 0, some, {"b": value})
        self.is_refused(NoValue, handed_on, house, 0, 2, some, {"b": 256})
        self.is_refused(NoValue, handed_on, house, 4, 0, [0] * 16, {"a": 256})
        self.are_bytes(handed_on(house, 4, 0, [3] * 16, {"a": 255}), [3] * 16)

    def test_what_is_handed_in_stays_and_what_is_told_is_new(self):
        house = deep()
        some = written(house, 1, {"a": {"a": 9, "b": 9}, "c": [[9, 8], [7, 6]], "d": [{"a": 9, "b": 8}] * 2})
        changes = [
            {"a": {"b": 1, "a": 2}, "c": [[0, 0], [0, 1]], "b": (1, 5)},
            {"d": [{"a": 1, "b": 2}] * 2, "c": [[1, 1], [1, 1]]},
            {"b": (0, [1, 2, 3]), "d": [{"a": 1, "b": 2}] * 2},
        ]
        before = repr((some, changes))
        for b in range(3):
            one, other = (handed_on(house, 1, b, some, changes[b]) for k in range(2))
            none = handed_on(house, 1, b, some, {})
            self.assertEqual(repr((some, changes)), before)
            self.assertTrue(are_apart(one, other, none, some))
            self.assertEqual(one, other)
            spoil(one)
            spoil(none)
            self.assertEqual(repr((some, changes)), before)
            self.assertEqual(handed_on(house, 1, b, some, changes[b]), other)
        kept = handed_on(house, 1, 2, some, changes[2])
        due = list(kept)
        spoil(changes)
        spoil(some)
        self.assertEqual(kept, due)
        self.assertEqual(told_of(house), told_of(deep()))

    def test_somewhat_beyond_the_bounds(self):
        life = Life([add(name, N11, 1) for name in "abcde"])
        for names in ["fghij", "klmno", "pqrst", "uvwxy"] + [""] * 8:
            life.go_on([add(name, N22, 500) for name in names])
        house = life.lead(House)
        value = life.drawn_value(random.Random(7), 12)
        some = written(house, 12, value)
        self.are_bytes(some, life.written(house, 12, value))
        self.assertEqual(read_by(house, 12, 3, some), life.read(12, 3, value))
        self.are_bytes(handed_on(house, 12, 1, some, {"a": 9}), life.written(house, 12, {**value, "a": 9}))


if __name__ == "__main__":
    unittest.main()
