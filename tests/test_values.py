"""Promises 11 and 12: values, their bytes, and bytes read back."""
import itertools
import random
import unittest

from laidfields.errors import FieldError, NoBytes, NoValue
from laidfields.inorder import holes_of
from laidfields.kinds import room_of
from laidfields.values import bytes_of, is_value, value_of
from tests.samples import (
    STRANGE, WRAPS, Alike, Sullen, are_apart, are_same, choice, drawn_kinds, drawn_value, lists_within, number,
    reckoned, reckoned_bytes, reckoned_spots, record, row, spoil, wrapped,
)

N11, N12, N14, N18 = number(1, 1), number(1, 2), number(1, 4), number(1, 8)
N22, N31, N32, N34, N44, N81, N88 = (number(*each) for each in [(2, 2), (3, 1), (3, 2), (3, 4), (4, 4), (8, 1), (8, 8)])
PAIR = record(N11, N44)
EITHER = choice(N11, N44)


# Kind, value, bytes.
BYTES = [
    (N11, 0, [0]),
    (N11, 255, [255]),
    (N22, 258, [2, 1]),
    (N31, 1, [1, 0, 0]),
    (N34, 256 ** 3 - 1, [255, 255, 255]),
    (N18, 7, [7]),
    (N88, 0x0102030405060708, [8, 7, 6, 5, 4, 3, 2, 1]),
    (N81, 256 ** 8 - 1, [255] * 8),
    (N88, 256 ** 7, [0] * 7 + [1]),
    (row(N11, 3), [1, 2, 3], [1, 2, 3]),
    (row(N34, 2), [1, 0x030201], [1, 0, 0, 0, 1, 2, 3, 0]),
    (row(N12, 3), [7, 8, 9], [7, 0, 8, 0, 9, 0]),
    (row(row(N12, 2), 2), [[1, 2], [3, 4]], [1, 0, 2, 0, 3, 0, 4, 0]),
    (record(N34), {"a": 5}, [5, 0, 0, 0]),
    (PAIR, {"a": 1, "b": 2}, [1, 0, 0, 0, 2, 0, 0, 0]),
    (PAIR, {"b": 2, "a": 1}, [1, 0, 0, 0, 2, 0, 0, 0]),
    (record(N44, N11), {"a": 1, "b": 2}, [1, 0, 0, 0, 2, 0, 0, 0]),
    (record(N34, N11), {"a": 1, "b": 2}, [1, 0, 0, 2]),
    (("record", [("z", N11), ("a", N22)]), {"a": 258, "z": 3}, [3, 0, 2, 1]),
    (EITHER, (0, 9), [0, 0, 0, 0, 9, 0, 0, 0]),
    (EITHER, (1, 9), [1, 0, 0, 0, 9, 0, 0, 0]),
    (EITHER, (1, 256 ** 4 - 1), [1, 0, 0, 0, 255, 255, 255, 255]),
    (choice(N11), (0, 9), [0, 9]),
    (choice(*[N11] * 6), (5, 9), [5, 9]),
    (choice(N81, N11), (1, 9), [1, 9] + [0] * 7),
    (choice(PAIR, N88), (0, {"a": 1, "b": 2}), [0] * 8 + [1, 0, 0, 0, 2, 0, 0, 0]),
    (choice(choice(N11, N22), N11), (0, (1, 258)), [0, 0, 1, 0, 2, 1]),
    (row(EITHER, 2), [(1, 1), (0, 2)], [1, 0, 0, 0, 1, 0, 0, 0, 0, 0, 0, 0, 2, 0, 0, 0]),
    (record(N11, row(choice(N12), 2)), {"a": 1, "b": [(0, 3), (0, 4)]}, [1, 0, 0, 0, 3, 0, 0, 0, 4, 0]),
    (record(record(row(choice(N11, N31), 2))), {"a": {"a": [(0, 5), (1, 6)]}}, [0, 5, 0, 0, 1, 6, 0, 0]),
]

# Kind, bytes that are no value's.
NO_BYTES = [
    (row(N34, 2), [0, 0, 0, 1, 0, 0, 0, 0]),
    (row(N34, 2), [0, 0, 0, 0, 0, 0, 0, 1]),
    (record(N34), [0, 0, 0, 255]),
    (PAIR, [0, 1, 0, 0, 0, 0, 0, 0]),
    (PAIR, [0, 0, 0, 1, 0, 0, 0, 0]),
    (record(N44, N11), [0, 0, 0, 0, 0, 1, 0, 0]),
    (EITHER, [2, 0, 0, 0, 0, 0, 0, 0]),
    (EITHER, [255, 0, 0, 0, 0, 0, 0, 0]),
    (EITHER, [0, 1, 0, 0, 0, 0, 0, 0]),
    (EITHER, [1, 0, 0, 1, 0, 0, 0, 0]),
    (EITHER, [0, 0, 0, 0, 0, 1, 0, 0]),
    (EITHER, [0, 0, 0, 0, 0, 0, 0, 1]),
    (choice(N11), [1, 0]),
    (choice(*[N11] * 6), [6, 0]),
    (choice(N81, N11), [1, 9] + [0] * 6 + [1]),
    (choice(N81, record(N11, N12)), [1, 9, 9, 0, 0, 0, 0, 0, 0, 0]),
    (choice(row(N34, 2), N18), [0, 0, 0, 0, 0, 0, 0, 0, 0, 0, 0, 1, 0, 0, 0, 0]),
    (choice(choice(N11), N31), [0, 1, 0, 0]),
    (choice(choice(N11), N31), [0, 0, 0, 1]),
    (row(EITHER, 2), [1, 0, 0, 0, 1, 0, 0, 0, 2, 0, 0, 0, 2, 0, 0, 0]),
]


def is_whole(thing):
    return type(thing) is int


class TestIsValue(unittest.TestCase):
    def is_one_just_if(self, due, kind, thing):
        self.assertIs(is_value(kind, thing), due, (kind, repr(thing)[:200]))
        if not due:
            with self.assertRaises(FieldError) as caught:
                bytes_of(kind, thing)
            self.assertIs(type(caught.exception), NoValue)

    def within_each(self, due, kind, thing):
        """Whether it is one by itself, and within a row, a record and a choice."""
        self.is_one_just_if(due, kind, thing)
        self.is_one_just_if(due, row(kind, 1), [thing])
        self.is_one_just_if(due, row(kind, 2), [thing, thing])
        self.is_one_just_if(due, record(kind), {"a": thing})
        self.is_one_just_if(due, record(N11, kind, N11), {"a": 0, "b": thing, "c": 0})
        self.is_one_just_if(due, choice(kind), (0, thing))
        self.is_one_just_if(due, choice(N11, N11, kind), (2, thing))
        self.is_one_just_if(due, choice(record(row(kind, 1))), (0, {"a": [thing]}))
        self.is_one_just_if(due, row(record(choice(N88, kind)), 1), [{"a": (1, thing)}])

    def test_numbers(self):
        for w in range(1, 9):
            for m in (1, 2, 4, 8):
                for value in [0, 1, 255, 256 ** w // 2, 256 ** w - 1]:
                    self.within_each(True, number(w, m), value)
                for value in [256 ** w, 256 ** w + 1, 256 ** (w + 1), 10 ** 400, -1, -255, -256 ** w, -10 ** 400]:
                    self.within_each(False, number(w, m), value)

    def test_numbers_around_a_byte(self):
        for value in range(-300, 600):
            self.is_one_just_if(0 <= value <= 255, N11, value)
            self.is_one_just_if(0 <= value, N22, value)

    def test_strange_things_are_no_numbers(self):
        for thing in STRANGE + ["0", "1", [0], (0,), {0: 0}, b"\0", (0, 0)]:
            self.within_each(is_whole(thing) and 0 <= thing <= 255, N11, thing)
            self.within_each(is_whole(thing) and 0 <= thing < 256 ** 8, N88, thing)

    def test_rows(self):
        for n in [1, 2, 3, 20]:
            for count in list(range(0, 25)) + [2000]:
                self.is_one_just_if(count == n, row(N11, n), [7] * count)
                self.is_one_just_if(False, row(N11, n), (7,) * count)
                self.is_one_just_if(False, row(N11, n), {k: 7 for k in range(count)})
        self.is_one_just_if(False, row(N11, 3), "abc")
        self.is_one_just_if(False, row(N11, 3), b"abc")
        self.is_one_just_if(False, row(N11, 3), bytearray(b"abc"))
        self.is_one_just_if(False, row(N11, 3), range(3))
        self.is_one_just_if(False, row(N11, 1), 7)

    def test_a_wrong_thing_at_any_place_of_a_row(self):
        for k in range(5):
            for thing in [256, -1, True, None, "1", [1], (1,), Sullen()]:
                some = [0] * 5
                some[k] = thing
                self.within_each(False, row(N11, 5), some)

    def test_rows_of_rows(self):
        self.within_each(True, row(row(N11, 2), 3), [[1, 2], [3, 4], [5, 6]])
        for thing in [[[1, 2, 3], [4, 5, 6]], [[1, 2], [3, 4]], [1, 2, 3, 4, 5, 6], [[1, 2], [3, 4], [5]], [[], [], []],
                      [[1, 2], [3, 4], (5, 6)], [[1, 2], [3, 4], [5, 256]], [[[1], 2], [3, 4], [5, 6]]]:
            self.within_each(False, row(row(N11, 2), 3), thing)

    def test_records(self):
        self.within_each(True, PAIR, {"a": 1, "b": 2})
        self.within_each(True, PAIR, {"b": 2, "a": 1})
        wrong = [
            {}, {"a": 1}, {"b": 1}, {"a": 1, "b": 2, "c": 3}, {"a": 1, "c": 2}, {"c": 1, "b": 2}, {"A": 1, "b": 2},
            {"a": 1, "b": None}, {"a": 256, "b": 2}, {"a": 1, "b": -1}, {"a": True, "b": 2}, {"a": 1, "b": False},
            {"a": 1, "b": [2]}, {"a": 1, "b": (2,)}, {"a": {"a": 1}, "b": 2}, {"a": 1, 1: 2}, {"a": 1, None: 2},
            {"a": 1, b"b": 2}, {"a": 1, ("b",): 2}, {0: 1, 1: 2}, {True: 1, False: 2}, {"a": 1, "b": 2, 3: 4},
            {"a": 1, "b": 2, "": 4}, {"a": 1, "b": 2, None: None}, {"a": 1, "b ": 2}, {"ab": 1, "ba": 2},
            {"a": 1, "": 2},
            [("a", 1), ("b", 2)], (("a", 1), ("b", 2)), [1, 2], (1, 2), ["a", "b"], ("a", "b"), "ab", {"a", "b"},
            {"a": 1, Alike("b"): 2}, {Alike("a"): 1, Alike("b"): 2}, {"a": 1, "b": 2, Alike("c"): 2},
            {"a": Sullen(), "b": 2}, {"a": 1, "b": Sullen()},
        ]
        for thing in wrong + STRANGE:
            self.within_each(False, PAIR, thing)

    def test_records_of_eight_fields(self):
        kind = record(*[N11, N22, N34, row(N11, 2), choice(N11), PAIR, N44, N88])
        source = random.Random(1)
        for k in range(20):
            value = drawn_value(source, kind)
            self.is_one_just_if(True, kind, value)
            for name in list(value):
                less = {other: value[other] for other in value if other != name}
                self.is_one_just_if(False, kind, less)
                self.is_one_just_if(False, kind, {**less, "x": value[name]})
                self.is_one_just_if(False, kind, {**less, name: None})
                self.is_one_just_if(False, kind, {**value, name + "x": value[name]})

    def test_choices(self):
        self.within_each(True, EITHER, (0, 255))
        self.within_each(True, EITHER, (1, 256))
        wrong = [
            (0, 256), (1, 256 ** 4), (2, 0), (3, 0), (-1, 0), (-2, 0), (10 ** 40, 0), (-10 ** 40, 0), (True, 0),
            (False, 0), ("0", 0), (None, 0), ("a", 0), ((0,), 0), ([0], 0), (Sullen(), 0), (0, True), (0, None),
            (0, -1), (0, Sullen()), (0,), (), (0, 0, 0), [0, 0], {0: 0}, {"a": 0, "b": 0}, 0, 1, "00",
            (0, (0, 0)), ((0, 0), 0),
        ]
        for thing in wrong + STRANGE:
            self.within_each(False, EITHER, thing)

    def test_which_one_is_chosen(self):
        kinds = [N11, row(N11, 2), PAIR, EITHER, N88, row(PAIR, 1)]
        values = [3, [1, 2], {"a": 1, "b": 2}, (1, 1000), 256 ** 7, [{"a": 1, "b": 2}]]
        fitting = {(4, 0)}
        for k in range(-2, 9):
            for other, value in enumerate(values):
                self.is_one_just_if(k == other or (k, other) in fitting, choice(*kinds), (k, value))
        for count in range(1, 7):
            for k in range(-7, 9):
                self.is_one_just_if(0 <= k < count, choice(*[N11] * count), (k, 7))

    def test_drawn_kinds(self):
        source = random.Random(2)
        for kind in drawn_kinds(150):
            value = drawn_value(source, kind)
            self.is_one_just_if(True, kind, value)
            for thing in STRANGE:
                is_number = kind[0] == "number" and is_whole(thing) and 0 <= thing < 256 ** kind[1]
                if not is_number and repr(thing) not in ("[1]", "{'a': 1}"):
                    self.is_one_just_if(False, kind, thing)

    def test_a_wrong_thing_at_any_depth(self):
        for wraps in itertools.product(range(4), repeat=4):
            kind, right, wrong = N11, 5, [256, -1, None, True, "5", [5], Sullen()]
            for wrap in wraps:
                kind = [row(kind, 2), record(N22, kind), choice(N22, kind), choice(kind)][wrap]
                puts = [lambda thing: [right, thing], lambda thing: {"a": 300, "b": thing},
                        lambda thing: (1, thing), lambda thing: (0, thing)]
                wrong = [puts[wrap](thing) for thing in wrong]
                right = puts[wrap](right)
            self.is_one_just_if(True, kind, right)
            for thing in wrong:
                self.is_one_just_if(False, kind, thing)

    def test_things_that_lie_within_themselves_or_far_deeper(self):
        some = []
        some.append(some)
        deep = wrapped(0, [lambda thing: [thing]] * 100000)
        self_dict = {}
        self_dict["a"] = self_dict
        for thing in [some, self_dict, deep]:
            for kind in [N11, row(N11, 1), row(row(N11, 1), 1), record(N11), record(record(N11)), EITHER,
                         wrapped(N11, [lambda kind: row(kind, 1)] * 4)]:
                self.assertIs(is_value(kind, thing), False)
                self.assertIs(is_value(choice(kind), (0, thing)), False)

    def test_nothing_is_refused_for_lying_somewhat_beyond_the_bounds(self):
        self.is_one_just_if(True, number(9, 16), 256 ** 9 - 1)
        self.is_one_just_if(False, number(9, 16), 256 ** 9)
        self.is_one_just_if(True, row(N11, 21), [1] * 21)
        self.is_one_just_if(True, choice(*[N11] * 7), (6, 1))

    def test_what_was_handed_in_stays(self):
        source = random.Random(3)
        for kind in drawn_kinds(60):
            value = drawn_value(source, kind)
            before = repr((kind, value))
            is_value(kind, value)
            self.assertEqual(repr((kind, value)), before)

    def test_the_answer_goes_by_what_the_thing_is_now(self):
        value = [1, 2]
        self.is_one_just_if(True, row(N11, 2), value)
        value.append(3)
        self.is_one_just_if(False, row(N11, 2), value)
        self.is_one_just_if(True, row(N11, 3), value)
        value[0] = 256
        self.is_one_just_if(False, row(N11, 3), value)


class TestBytes(unittest.TestCase):
    def lead_there_and_back(self, kind, value, due):
        told = bytes_of(kind, value)
        self.assertIs(type(told), list)
        self.assertEqual({type(byte) for byte in told}, {int})
        self.assertEqual(told, due, (kind, value))
        self.assertTrue(are_same(value_of(kind, due), value), (kind, value))

    def are_refused(self, kind, thing):
        with self.assertRaises(FieldError) as caught:
            value_of(kind, thing)
        self.assertIs(type(caught.exception), NoBytes, (kind, repr(thing)[:200]))

    def test_bytes_reckoned_by_hand(self):
        for kind, value, due in BYTES:
            self.lead_there_and_back(kind, value, due)

    def test_numbers(self):
        source = random.Random(4)
        for w in range(1, 9):
            for m in (1, 2, 4, 8):
                for k in range(20):
                    value = drawn_value(source, number(w, m))
                    self.lead_there_and_back(number(w, m), value, list(value.to_bytes(w, "little")))

    def test_one_within_another_to_a_depth_of_five(self):
        source = random.Random(5)
        for kind in [N11, N34, N18]:
            for depth in range(2, 6):
                for wraps in itertools.product(WRAPS[::2] + WRAPS[5:6], repeat=depth - 1):
                    whole = wrapped(kind, wraps)
                    value = drawn_value(source, whole)
                    self.lead_there_and_back(whole, value, reckoned_bytes(whole, value))

    def test_drawn_kinds(self):
        source = random.Random(6)
        for kind in drawn_kinds(300):
            value = drawn_value(source, kind)
            self.lead_there_and_back(kind, value, reckoned_bytes(kind, value))
            self.assertEqual(len(bytes_of(kind, value)), room_of(kind)[0])

    def test_idle_bytes_are_nothing(self):
        source = random.Random(7)
        for kind in drawn_kinds(200):
            some = bytes_of(kind, drawn_value(source, kind))
            for begin, end in holes_of(kind):
                self.assertEqual(some[begin:end], [0] * (end - begin))

    def test_no_value_of_anything(self):
        for kind in [N11, row(N11, 2), PAIR, EITHER, row(row(PAIR, 2), 2)]:
            for thing in STRANGE:
                if not (kind == N11 and is_whole(thing) and 0 <= thing <= 255):
                    with self.assertRaises(FieldError) as caught:
                        bytes_of(kind, thing)
                    self.assertIs(type(caught.exception), NoValue)
                    self.assertEqual(caught.exception.__class__.__bases__, (FieldError,))

    def test_bytes_that_are_no_value_s_by_hand(self):
        for kind, thing in NO_BYTES:
            self.are_refused(kind, thing)

    def test_each_list_of_two_bytes(self):
        for kind in [row(N12, 1), record(N12), choice(N11, N11, N11), row(N11, 2), N22]:
            values = []
            for some in itertools.product(range(0, 256, 5), range(256)):
                idle = kind in (row(N12, 1), record(N12)) and some[1] != 0
                if idle or kind[0] == "choice" and some[0] > 2:
                    self.are_refused(kind, list(some))
                else:
                    value = value_of(kind, list(some))
                    values.append(repr(value))
                    self.assertIs(is_value(kind, value), True)
                    self.assertEqual(bytes_of(kind, value), list(some))
            self.assertEqual(len(values), len(set(values)))

    def test_each_byte_changed(self):
        source = random.Random(8)
        for kind in drawn_kinds(120):
            if reckoned(kind)[0] > 300:
                continue
            value = drawn_value(source, kind)
            some = reckoned_bytes(kind, value)
            spots = {place: count for place, byte, count in reckoned_spots(kind, value)}
            for place, byte in enumerate(some):
                changed = list(some)
                changed[place] = source.choice([other for other in (0, 1, 2, 6, 128, 255) if other != byte])
                if place not in spots:
                    self.are_refused(kind, changed)
                elif spots[place] == 0:
                    other = value_of(kind, changed)
                    self.assertNotEqual(other, value)
                    self.assertEqual(reckoned_bytes(kind, other), changed)
                elif changed[place] >= spots[place]:
                    self.are_refused(kind, changed)
                else:
                    self.is_read_or_refused(kind, changed)

    def is_read_or_refused(self, kind, some):
        """What is read is the one value of these bytes, or it is refused."""
        try:
            value = value_of(kind, some)
        except NoBytes:
            return
        self.assertIs(is_value(kind, value), True)
        self.assertEqual(reckoned_bytes(kind, value), some)

    def test_bytes_that_the_chosen_one_does_not_fill(self):
        kind = choice(N81, N11, PAIR, row(N12, 2))
        filled = [{k for k in range(8)}, {0}, {0, 4, 5, 6, 7}, {0, 2}]
        for mark in range(4):
            for k in range(room_of(kind)[0] - 4):
                some = [mark] + [0] * (room_of(kind)[0] - 1)
                some[4 + k] = 1
                if k in filled[mark]:
                    self.assertEqual(bytes_of(kind, value_of(kind, some)), some)
                else:
                    self.are_refused(kind, some)
            for k in [1, 2, 3]:
                some = [mark] + [0] * (room_of(kind)[0] - 1)
                some[k] = 1
                self.are_refused(kind, some)

    def test_marks(self):
        for count in range(1, 7):
            for mark in range(256):
                if mark < count:
                    self.assertEqual(value_of(choice(*[N11] * count), [mark, 8]), (mark, 8))
                else:
                    self.are_refused(choice(*[N11] * count), [mark, 8])

    def test_things_that_are_no_bytes(self):
        for kind in [N11, N22, row(N11, 3), PAIR, EITHER, choice(N11)]:
            room = room_of(kind)[0]
            for thing in STRANGE + ["0" * room, b"\0" * room, (0,) * room, {k: 0 for k in range(room)}, range(room)]:
                if not (kind == N11 and repr(thing) == "[1]"):
                    self.are_refused(kind, thing)
            for count in range(0, 30):
                if count != room:
                    self.are_refused(kind, [0] * count)
            self.are_refused(kind, [0] * 2000)

    def test_things_among_the_bytes_that_are_none(self):
        wrong = [thing for thing in STRANGE if not (is_whole(thing) and 0 <= thing <= 255)]
        for kind in [N11, N22, row(N34, 2), PAIR, EITHER, choice(N11)]:
            room = room_of(kind)[0]
            for k in range(room):
                for thing in wrong + [256, 257, 1000, -1, -255, -256, "0", "00", "a", True, False, None, [0], (0,)]:
                    some = [0] * room
                    some[k] = thing
                    self.are_refused(kind, some)

    def test_what_is_told_is_the_asker_s_own(self):
        source = random.Random(9)
        for kind in drawn_kinds(80):
            value = drawn_value(source, kind)
            some = bytes_of(kind, value)
            again = bytes_of(kind, value)
            self.assertEqual(again, some)
            one = value_of(kind, some)
            other = value_of(kind, some)
            self.assertTrue(are_apart(value, some, again, one, other, kind))
            spoil(one)
            spoil(again)
            self.assertEqual(value_of(kind, some), value)
            self.assertEqual(other, value)
            self.assertEqual(bytes_of(kind, value), some)

    def test_each_list_and_dict_of_a_value_is_its_own(self):
        kind = row(record(row(N11, 2), row(N11, 2)), 3)
        value = value_of(kind, [7] * 12)
        self.assertEqual(len(lists_within(value)), 10)
        self.assertTrue(are_apart(value))
        value[0]["a"][0] = 1
        self.assertEqual(value[1:], [{"a": [7, 7], "b": [7, 7]}] * 2)
        self.assertEqual(value[0], {"a": [1, 7], "b": [7, 7]})

    def test_one_list_that_stands_twice_in_a_value(self):
        inner = [1, 2]
        some = bytes_of(row(row(N12, 2), 2), [inner, inner])
        self.assertEqual(some, [1, 0, 2, 0, 1, 0, 2, 0])
        self.assertTrue(are_apart(value_of(row(row(N12, 2), 2), some)))

    def test_what_was_handed_in_stays_and_is_not_kept(self):
        source = random.Random(10)
        for kind in drawn_kinds(60):
            value = drawn_value(source, kind)
            before = repr((kind, value))
            some = bytes_of(kind, value)
            written = list(some)
            value_of(kind, some)
            self.assertEqual(some, written)
            self.assertEqual(repr((kind, value)), before)
            spoil(value)
            self.assertEqual(some, written)
        inner = [N11]
        kind = ("choice", inner)
        self.assertEqual(bytes_of(kind, (0, 1)), [0, 1])
        inner.append(N22)
        self.assertEqual(bytes_of(kind, (1, 1)), [1, 0, 1, 0])
        self.assertEqual(value_of(kind, [0, 0, 1, 0]), (0, 1))

    def test_what_is_refused_changes_nothing(self):
        for kind, thing in NO_BYTES:
            before = repr((kind, thing))
            self.are_refused(kind, thing)
            self.assertEqual(repr((kind, thing)), before)

    def test_nothing_is_refused_for_lying_somewhat_beyond_the_bounds(self):
        for kind in [number(9, 16), row(N34, 21), record(*[N34] * 9), choice(*[N34] * 7)]:
            value = drawn_value(random.Random(11), kind)
            self.lead_there_and_back(kind, value, reckoned_bytes(kind, value))


if __name__ == "__main__":
    unittest.main()
