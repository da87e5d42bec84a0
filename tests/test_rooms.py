"""Promise 6: rounding up, room and multiple."""
import itertools
import unittest

from laidfields.kinds import room_of, rounded_up
from tests.samples import WRAPS, choice, drawn_kinds, next_multiple, number, reckoned, record, row, wrapped

N11, N12, N14, N18 = number(1, 1), number(1, 2), number(1, 4), number(1, 8)
N22, N31, N32, N34 = number(2, 2), number(3, 1), number(3, 2), number(3, 4)
N44, N51, N52, N78, N81, N88 = number(4, 4), number(5, 1), number(5, 2), number(7, 8), number(8, 1), number(8, 8)

ROOMS = [
    (row(N11, 1), (1, 1)),
    (row(N11, 20), (20, 1)),
    (row(N34, 1), (4, 4)),
    (row(N34, 2), (8, 4)),
    (row(N52, 3), (18, 2)),
    (row(N18, 2), (16, 8)),
    (row(N88, 20), (160, 8)),
    (row(N81, 3), (24, 1)),
    (row(row(N11, 2), 3), (6, 1)),
    (row(row(N32, 2), 3), (24, 2)),
    (row(record(N44, N11), 3), (24, 4)),
    (row(choice(N11), 5), (10, 1)),
    (record(N11), (1, 1)),
    (record(N34), (4, 4)),
    (record(N18), (8, 8)),
    (record(N11, N44), (8, 4)),
    (record(N34, N11), (4, 4)),
    (record(N44, N11), (8, 4)),
    (record(N11, N22, N11, N44, N88), (24, 8)),
    (record(N88, N44, N22, N11, N11), (16, 8)),
    (record(N51, number(2, 4)), (12, 4)),
    (record(N88, N11), (16, 8)),
    (record(N18, N11), (8, 8)),
    (record(N34, N34, N34), (12, 4)),
    (record(N11, N31), (4, 1)),
    (record(*[N11] * 8), (8, 1)),
    (record(N32, row(N32, 1), N11), (10, 2)),
    (record(N11, record(N11, N22), N11), (8, 2)),
    (choice(N11), (2, 1)),
    (choice(N11, N44), (8, 4)),
    (choice(N44, N11), (8, 4)),
    (choice(N34), (8, 4)),
    (choice(N51, N22), (8, 2)),
    (choice(N18, N81), (16, 8)),
    (choice(N78, N11), (16, 8)),
    (choice(N81, N81), (9, 1)),
    (choice(N11, N12, N14, N31), (8, 4)),
    (choice(row(N34, 2), N52), (12, 4)),
    (choice(choice(N11)), (3, 1)),
    (choice(choice(N11, N44), N88), (16, 8)),
    (choice(record(N88, N11), N11), (24, 8)),
    (record(choice(N11, N44), N11), (12, 4)),
    (record(N11, choice(N22), N34), (12, 4)),
    (row(record(choice(row(N34, 2), N11), N18), 3), (72, 8)),
]


class TestRoundedUp(unittest.TestCase):
    def test_small_numbers(self):
        for m in range(1, 40):
            for value in range(0, 130):
                told = rounded_up(value, m)
                self.assertIs(type(told), int)
                self.assertEqual(told, next_multiple(value, m), (value, m))

    def test_nothing_stays_nothing(self):
        for m in [1, 2, 3, 7, 8, 1000, 10 ** 60]:
            self.assertEqual(rounded_up(0, m), 0)

    def test_around_a_multiple(self):
        for m in [2, 3, 4, 8, 10, 97, 4096, 2 ** 53 + 1, 10 ** 40 + 7]:
            for k in [1, 2, 3, 1000, 2 ** 53 + 1, 10 ** 40 + 3]:
                self.assertEqual(rounded_up(k * m - 1, m), k * m)
                self.assertEqual(rounded_up(k * m, m), k * m)
                self.assertEqual(rounded_up(k * m + 1, m), (k + 1) * m)

    def test_to_one(self):
        for value in [0, 1, 2, 255, 2 ** 53 + 1, 10 ** 60 + 1]:
            self.assertEqual(rounded_up(value, 1), value)

    def test_below_a_great_multiple(self):
        self.assertEqual(rounded_up(1, 10 ** 60), 10 ** 60)
        self.assertEqual(rounded_up(5, 8), 8)


class TestRoomOf(unittest.TestCase):
    def is_room(self, kind, due):
        told = room_of(kind)
        self.assertIs(type(told), tuple)
        self.assertEqual([type(each) for each in told], [int, int])
        self.assertEqual(told, due, kind)

    def test_numbers(self):
        for w in range(1, 9):
            for m in [1, 2, 4, 8]:
                self.is_room(number(w, m), (w, m))

    def test_the_document_s_example(self):
        self.is_room(choice(number(1, 1), number(4, 4)), (8, 4))

    def test_rooms_reckoned_by_hand(self):
        for kind, due in ROOMS:
            self.is_room(kind, due)

    def test_each_sort_over_each_number(self):
        for w in range(1, 9):
            for m in [1, 2, 4, 8]:
                step = next_multiple(w, m)
                for n in [1, 2, 3, 20]:
                    self.is_room(row(number(w, m), n), (n * step, m))
                self.is_room(record(number(w, m)), (step, m))
                self.is_room(choice(number(w, m)), (m + step, m))

    def test_records_of_two_numbers(self):
        numbers = [number(w, m) for w in range(1, 9) for m in [1, 2, 4, 8]]
        for one, other in itertools.product(numbers, repeat=2):
            self.is_room(record(one, other), reckoned(record(one, other))[:2])
            self.is_room(choice(one, other), reckoned(choice(one, other))[:2])

    def test_one_within_another_to_a_depth_of_five(self):
        for kind in [N11, N34, N52, N18]:
            for depth in range(2, 6):
                for wraps in itertools.product(WRAPS[::2] + WRAPS[5:6], repeat=depth - 1):
                    whole = wrapped(kind, wraps)
                    self.is_room(whole, reckoned(whole)[:2])

    def test_deepest_by_hand(self):
        self.is_room(wrapped(N34, [lambda kind: row(kind, 2)] * 4), (64, 4))
        self.is_room(wrapped(N34, [lambda kind: record(kind)] * 4), (4, 4))
        self.is_room(wrapped(N34, [lambda kind: choice(kind)] * 4), (20, 4))

    def test_drawn_kinds(self):
        for kind in drawn_kinds(400):
            self.is_room(kind, reckoned(kind)[:2])

    def test_all_but_a_number_s_is_a_multiple(self):
        for kind in drawn_kinds(400):
            if kind[0] != "number":
                room, multiple = room_of(kind)
                self.assertEqual(room % multiple, 0)

    def test_nothing_is_refused_for_lying_somewhat_beyond_the_bounds(self):
        self.is_room(number(9, 16), (9, 16))
        self.is_room(row(N34, 21), (84, 4))
        self.is_room(record(*[N34] * 9), (36, 4))
        self.is_room(choice(*[N34] * 7), (8, 4))
        self.is_room(wrapped(N34, [lambda kind: choice(kind)] * 6), (28, 4))

    def test_what_was_handed_in_stays_and_is_not_kept(self):
        for kind in drawn_kinds(60):
            before = repr(kind)
            told = room_of(kind)
            self.assertEqual(repr(kind), before)
            self.assertEqual(room_of(kind), told)
        inner = [("a", N11)]
        kind = row(("record", inner), 2)
        self.is_room(kind, (2, 1))
        inner.append(("b", N44))
        self.is_room(kind, (16, 4))
        inner.pop()
        self.is_room(kind, (2, 1))


if __name__ == "__main__":
    unittest.main()
