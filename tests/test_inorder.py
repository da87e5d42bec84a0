"""Promises 7 and 8: places in order, and holes."""
import itertools
import unittest

from laidfields.inorder import holes_of, places_in_order
from laidfields.kinds import room_of, rounded_up
from tests.samples import (
    WRAPS, choice, drawn_kinds, fields, number, reckoned_holes, reckoned_places, record, row, wrapped,
)

N11, N18, N22, N31, N32, N34 = number(1, 1), number(1, 8), number(2, 2), number(3, 1), number(3, 2), number(3, 4)
N44, N51, N52, N88 = number(4, 4), number(5, 1), number(5, 2), number(8, 8)

PLACES = [
    ([("a", N11)], [("a", 0)]),
    ([("b", N88)], [("b", 0)]),
    ([("zz", N11), ("a", N44)], [("zz", 0), ("a", 4)]),
    ([("a", N44), ("b", N11)], [("a", 0), ("b", 4)]),
    ([("a", N34), ("b", N11), ("c", N44)], [("a", 0), ("b", 3), ("c", 4)]),
    ([("b", N34), ("a", N34)], [("b", 0), ("a", 4)]),
    ([("c", N11), ("b", N22), ("a", N11), ("d", N44), ("e", N88)],
     [("c", 0), ("b", 2), ("a", 4), ("d", 8), ("e", 16)]),
    ([("long", row(N34, 2)), ("behind", N11)], [("long", 0), ("behind", 8)]),
    ([("one", N11), ("sum", choice(N11, N44)), ("two", N11), ("rec", record(N11, N22))],
     [("one", 0), ("sum", 4), ("two", 12), ("rec", 14)]),
    ([(name, N11) for name in "hgfedcba"], [(name, k) for k, name in enumerate("hgfedcba")]),
    ([(name, N18) for name in "hgfedcba"], [(name, 8 * k) for k, name in enumerate("hgfedcba")]),
    ([("a", N18), ("b", N18), ("c", N11), ("d", N22), ("e", N32), ("f", N11), ("g", N51), ("h", N44)],
     [("a", 0), ("b", 8), ("c", 9), ("d", 10), ("e", 12), ("f", 15), ("g", 16), ("h", 24)]),
]

HOLES = [
    (N11, []),
    (N34, []),
    (N18, []),
    (row(N11, 20), []),
    (row(N44, 3), []),
    (row(N34, 1), [(3, 4)]),
    (row(N34, 3), [(3, 4), (7, 8), (11, 12)]),
    (row(N18, 2), [(1, 8), (9, 16)]),
    (row(N52, 2), [(5, 6), (11, 12)]),
    (row(row(N32, 2), 2), [(3, 4), (7, 8), (11, 12), (15, 16)]),
    (row(record(N11, N44, N11), 2), [(1, 4), (9, 12), (13, 16), (21, 24)]),
    (row(choice(N22), 2), [(1, 2), (5, 6)]),
    (record(N11), []),
    (record(N34), [(3, 4)]),
    (record(N34, N11), []),
    (record(N11, N31), []),
    (record(N11, N44), [(1, 4)]),
    (record(N44, N11), [(5, 8)]),
    (record(N11, N22, N11, N44, N88), [(1, 2), (5, 8), (12, 16)]),
    (record(record(N44, N11), N11), [(5, 8), (9, 12)]),
    (record(record(N44, N11), N44), [(5, 8)]),
    (record(N44, record(N44, N11), N88), [(9, 16)]),
    (record(N44, row(N34, 2), N88), [(7, 8), (11, 16)]),
    (record(N88, record(N44, N11)), [(13, 16)]),
    (record(N88, N44, record(N22, N11)), [(15, 16)]),
    (record(N88, record(N22, N11)), [(11, 16)]),
    (choice(N11), []),
    (choice(N51, N31), []),
    (choice(N22), [(1, 2)]),
    (choice(N11, N44), [(1, 4)]),
    (choice(N34), [(1, 4), (7, 8)]),
    (choice(N18, N31), [(1, 8), (11, 16)]),
    (choice(N11, record(N11, N44)), [(1, 4), (5, 8)]),
    (choice(record(N11, N44), N22), [(1, 4), (6, 8)]),
    (choice(record(N11, N44), N88), [(1, 8)]),
    (choice(record(N11, N44), N31), [(1, 4), (7, 8)]),
    (choice(record(N44, N11), record(N11, N44), N11), [(1, 4)]),
    (choice(record(N22, N44), row(N34, 2)), [(1, 4), (7, 8)]),
    (choice(record(N22, N44), row(N44, 2)), [(1, 4)]),
    (choice(record(N11, N44), record(N22, N44)), [(1, 4), (6, 8)]),
    (choice(record(N11, N88), N44), [(1, 8), (12, 16)]),
    (choice(choice(N11)), []),
    (choice(choice(N44)), [(1, 4), (5, 8)]),
    (choice(choice(N44), N22), [(1, 4), (6, 8)]),
    (record(N11, choice(N11, N44), N11), [(1, 4), (5, 8), (13, 16)]),
    (row(record(choice(row(N34, 2), N11), N18), 2),
     [(1, 4), (7, 8), (11, 16), (17, 24), (25, 28), (31, 32), (35, 40), (41, 48)]),
]


class TestPlaces(unittest.TestCase):
    def are_places(self, some, due):
        told = places_in_order(some)
        self.assertIs(type(told), list)
        for each in told:
            self.assertIs(type(each), tuple)
            self.assertEqual([type(part) for part in each], [str, int])
        self.assertEqual(told, due)

    def test_places_reckoned_by_hand(self):
        for some, due in PLACES:
            self.are_places(some, due)

    def test_of_one_to_eight_fields(self):
        kinds = drawn_kinds(160)
        for count in range(1, 9):
            for begin in range(0, 150, 7):
                some = fields(*kinds[begin:begin + count])
                self.are_places(some, reckoned_places(some))
                some = [(name, kind) for (name, ahead), (other, kind) in zip(some, reversed(some))]
                self.are_places(some, reckoned_places(some))

    def test_of_three_numbers(self):
        numbers = [number(w, m) for w in (1, 2, 3, 5, 8) for m in (1, 2, 4, 8)]
        for kinds in itertools.product(numbers, repeat=3):
            some = fields(*kinds)
            self.are_places(some, reckoned_places(some))

    def test_records_are_laid_so(self):
        for kind in drawn_kinds(400):
            if kind[0] == "record":
                end = places_in_order(kind[1])[-1][1] + room_of(kind[1][-1][1])[0]
                greatest = max(room_of(inner)[1] for name, inner in kind[1])
                self.assertEqual(room_of(kind), (rounded_up(end, greatest), greatest))

    def test_nothing_is_refused_for_lying_somewhat_beyond_the_bounds(self):
        some = [(name, N34) for name in "abcdefghij"]
        self.are_places(some, [(name, 4 * k) for k, name in enumerate("abcdefghij")])

    def test_what_was_handed_in_stays(self):
        for some, due in PLACES:
            before = repr(some)
            places_in_order(some)
            self.assertEqual(repr(some), before)

    def test_what_is_told_is_the_asker_s_own(self):
        for some, due in PLACES:
            told = places_in_order(some)
            self.assertIsNot(told, some)
            self.assertIsNot(told, places_in_order(some))
            told.reverse()
            told.append(("x", 1))
            self.are_places(some, due)
            told.clear()
            self.are_places(some, due)

    def test_what_is_handed_in_is_not_kept(self):
        some = [("a", N11), ("b", N44)]
        told = places_in_order(some)
        some[0] = ("c", N51)
        self.assertEqual(told, [("a", 0), ("b", 4)])
        self.are_places(some, [("c", 0), ("b", 8)])
        some.pop()
        self.are_places(some, [("c", 0)])


class TestHoles(unittest.TestCase):
    def are_holes(self, kind, due):
        told = holes_of(kind)
        self.assertIs(type(told), list)
        for each in told:
            self.assertIs(type(each), tuple)
            self.assertEqual([type(part) for part in each], [int, int])
        self.assertEqual(told, due, kind)

    def test_numbers_have_none(self):
        for w in range(1, 9):
            for m in [1, 2, 4, 8]:
                self.are_holes(number(w, m), [])

    def test_holes_reckoned_by_hand(self):
        for kind, due in HOLES:
            self.are_holes(kind, due)

    def test_each_sort_over_each_number(self):
        for w in range(1, 9):
            for m in [1, 2, 4, 8]:
                for kind in [row(number(w, m), 3), record(number(w, m)), choice(number(w, m))]:
                    self.are_holes(kind, reckoned_holes(kind))

    def test_of_two_numbers(self):
        numbers = [number(w, m) for w in range(1, 9) for m in [1, 2, 4, 8]]
        for one, other in itertools.product(numbers, repeat=2):
            for kind in [record(one, other), choice(one, other), choice(record(one, other), other)]:
                self.are_holes(kind, reckoned_holes(kind))

    def test_one_within_another_to_a_depth_of_five(self):
        for kind in [N11, N34, N52, N18]:
            for depth in range(2, 6):
                for wraps in itertools.product(WRAPS[::2] + WRAPS[5:6], repeat=depth - 1):
                    whole = wrapped(kind, wraps)
                    self.are_holes(whole, reckoned_holes(whole))

    def test_drawn_kinds(self):
        for kind in drawn_kinds(400):
            self.are_holes(kind, reckoned_holes(kind))

    def test_nothing_is_refused_for_lying_somewhat_beyond_the_bounds(self):
        kinds = [number(9, 16), row(N34, 21), record(*[N34] * 9), choice(*[N34] * 7)]
        for kind in kinds + [wrapped(N34, [lambda inner: choice(inner)] * 6)]:
            self.are_holes(kind, reckoned_holes(kind))

    def test_they_rise_and_do_not_touch(self):
        for kind in drawn_kinds(400):
            end = 0
            for begin, behind in holes_of(kind):
                self.assertLess(end, begin)
                self.assertLess(begin, behind)
                end = behind
            self.assertLessEqual(end, room_of(kind)[0])

    def test_what_was_handed_in_stays(self):
        for kind in drawn_kinds(60) + [kind for kind, due in HOLES]:
            before = repr(kind)
            holes_of(kind)
            self.assertEqual(repr(kind), before)

    def test_what_is_told_is_the_asker_s_own(self):
        for kind, due in HOLES:
            told = holes_of(kind)
            self.assertIsNot(told, holes_of(kind))
            told.append((100, 200))
            self.are_holes(kind, due)
            told.clear()
            self.are_holes(kind, due)
        self.assertIsNot(holes_of(N11), holes_of(N44))

    def test_what_is_handed_in_is_not_kept(self):
        inner = [N11]
        kind = record(N11, ("choice", inner))
        self.are_holes(kind, [])
        inner.append(N44)
        self.are_holes(kind, [(1, 4), (5, 8)])
        inner.pop()
        self.are_holes(kind, [])


if __name__ == "__main__":
    unittest.main()
