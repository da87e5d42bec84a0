"""Promises 9 and 10: fields placed around what lies."""
import itertools
import random
import time
import unittest

from laidfields.closely import closely_laid, is_placing, placed_closely
from laidfields.inorder import places_in_order
from tests.samples import (
    STRANGE, choice, drawn_kinds, drawn_lying, fields, has_placing_below, is_reckoned_placing, least_end_of_orders,
    number, reckoned, reckoned_end, record, row,
)

N11, N12, N14, N18 = number(1, 1), number(1, 2), number(1, 4), number(1, 8)
N22, N24, N31, N32, N34 = number(2, 2), number(2, 4), number(3, 1), number(3, 2), number(3, 4)
N44, N51, N58, N81, N88 = number(4, 4), number(5, 1), number(5, 8), number(8, 1), number(8, 8)
NUMBERS = [number(w, m) for w in range(1, 9) for m in (1, 2, 4, 8)]
MIXED = NUMBERS + [row(N34, 2), record(N11, N44), choice(N11), choice(N22, N31), record(N31, N31), row(N51, 2)]

ENDS = [
    ([], [], 0),
    ([], [(0, 1)], 1),
    ([], [(3, 4)], 4),
    ([], [(0, 4), (4, 9), (12, 13)], 13),
    ([N11], [], 1),
    ([N34], [], 3),
    ([N18], [], 1),
    ([row(N34, 2)], [], 8),
    ([record(N34)], [], 4),
    ([choice(N11, N44)], [], 8),
    ([N11], [(0, 1)], 2),
    ([N11], [(1, 2)], 2),
    ([N11], [(0, 1), (2, 9)], 9),
    ([N11], [(0, 1), (1, 2), (2, 3)], 4),
    ([N44], [(0, 1)], 8),
    ([N44], [(3, 4)], 8),
    ([N44], [(3, 5)], 12),
    ([N44], [(0, 1), (8, 9)], 9),
    ([N44], [(0, 1), (7, 9)], 16),
    ([N34], [(0, 1), (7, 8)], 8),
    ([N34], [(3, 4), (4, 8)], 8),
    ([N18], [(0, 8), (9, 20)], 20),
    ([N18], [(0, 9), (9, 20)], 25),
    ([N11, N44], [], 5),
    ([N11, N34], [], 4),
    ([N34, N34], [], 7),
    ([N34, N31], [], 6),
    ([N11, N22, N11, N44, N88], [], 16),
    ([N11, N11, N11, N11, N11], [], 5),
    ([N18, N18, N18, N18, N18], [], 33),
    ([N18, N18, N11], [], 9),
    ([N88, N88, N88, N88, N88], [], 40),
    ([N58, N34, N11], [], 11),
    ([N58, N31, N58], [], 13),
    ([N12, N12, N11, N11], [], 4),
    ([N14, N31, N14], [], 5),
    ([N14, N34, N11], [], 5),
    ([N51, N44], [], 9),
    ([N51, N44], [(0, 1)], 12),
    ([N51, N44], [(5, 8)], 12),
    ([N31, N31, N22], [(4, 5)], 10),
    ([N22, N31], [(2, 3), (6, 7)], 7),
    ([N31, N22], [(2, 3), (6, 7)], 7),
    ([N22, N22, N31], [(2, 3), (6, 7)], 10),
    ([N11, N31, N44], [(0, 4), (8, 9)], 13),
    ([row(N88, 20), N11], [(0, 1), (161, 162)], 328),
    ([row(N88, 20), N11], [(0, 1), (168, 169)], 169),
]


class TestPlacedClosely(unittest.TestCase):
    def is_placed(self, kinds, lying):
        told = placed_closely(kinds, lying)
        self.assertIs(type(told), tuple)
        self.assertEqual([type(each) for each in told], [list, int])
        places, end = told
        self.assertEqual([type(place) for place in places], [int] * len(kinds))
        self.assertTrue(is_reckoned_placing(kinds, lying, places), (kinds, lying, places))
        self.assertEqual(end, reckoned_end(kinds, lying, places), (kinds, lying, places))
        return end

    def test_ends_reckoned_by_hand(self):
        for kinds, lying, due in ENDS:
            self.assertEqual(self.is_placed(kinds, lying), due, (kinds, lying))

    def test_with_none_to_place(self):
        self.assertEqual(placed_closely([], []), ([], 0))
        source = random.Random(1)
        for how_many in range(1, 21):
            lying = drawn_lying(source, how_many, 9, 9)
            self.assertEqual(placed_closely([], lying), ([], lying[-1][1]))

    def test_one_around_nothing_begins_at_nothing(self):
        for kind in drawn_kinds(60):
            self.assertEqual(placed_closely([kind], []), ([0], reckoned(kind)[0]))

    def test_one_in_each_hole(self):
        for kind in NUMBERS:
            for begin, end in itertools.combinations(range(20), 2):
                lying = [(0, begin), (end, 30)] if begin else [(end, 30)]
                due = least_end_of_orders([kind], lying)
                self.assertEqual(self.is_placed([kind], lying), due)
                self.assertFalse(has_placing_below([kind], lying, due))

    def test_two_numbers_around_nothing(self):
        for kinds in itertools.product(NUMBERS, repeat=2):
            end = self.is_placed(list(kinds), [])
            self.assertFalse(has_placing_below(kinds, [], end), kinds)

    def test_no_placing_of_small_fields_ends_sooner(self):
        source = random.Random(2)
        for k in range(700):
            kinds = [source.choice(MIXED) for field in range(source.randint(0, 5))]
            lying = drawn_lying(source, source.randint(0, 20), source.choice([2, 4, 9]), source.choice([1, 3, 7]))
            end = self.is_placed(kinds, lying)
            self.assertFalse(has_placing_below(kinds, lying, end), (kinds, lying))

    def test_no_placing_of_five_small_fields_around_few_stretches_ends_sooner(self):
        source = random.Random(3)
        for k in range(250):
            kinds = [source.choice(NUMBERS[:20]) for field in range(5)]
            lying = drawn_lying(source, source.randint(0, 3), 6, 2)
            end = self.is_placed(kinds, lying)
            self.assertFalse(has_placing_below(kinds, lying, end), (kinds, lying))

    def test_no_order_of_larger_fields_ends_sooner(self):
        source = random.Random(4)
        large = drawn_kinds(300)
        for k in range(120):
            kinds = [source.choice(large) for field in range(source.randint(0, 5))]
            width = source.choice([10, 100, 400])
            lying = drawn_lying(source, source.randint(0, 20), width, width)
            self.assertEqual(self.is_placed(kinds, lying), least_end_of_orders(kinds, lying), (kinds, lying))

    def test_holes_that_just_fit(self):
        source = random.Random(5)
        for k in range(120):
            kinds = [source.choice(MIXED) for field in range(source.randint(1, 5))]
            lying = []
            end = source.choice([0, 1, 4])
            for kind in source.sample(kinds, len(kinds)):
                begin = end + reckoned(kind)[0] + source.choice([-1, 0, 0, 0, 1])
                end = begin + source.randint(1, 8)
                lying.append((begin, end))
            self.assertEqual(self.is_placed(kinds, lying), least_end_of_orders(kinds, lying), (kinds, lying))

    def test_kinds_of_two_thousand_bytes(self):
        large = row(row(number(5, 1), 20), 20)
        wide = record(row(row(N58, 20), 12), N58, N11)
        self.assertEqual([reckoned(large)[0], reckoned(wide)[0]], [2000, 1928])
        kinds = [large, N88, wide, N31, large]
        lying = [(1, 2), (1990, 2000), (2003, 2004), (4100, 4101)]
        self.assertEqual(self.is_placed(kinds, []), least_end_of_orders(kinds, []))
        self.assertEqual(self.is_placed(kinds, lying), least_end_of_orders(kinds, lying))

    def test_five_fields_with_twenty_stretches_in_good_time(self):
        source = random.Random(6)
        large = drawn_kinds(100)
        asked = [([source.choice(large) for field in range(5)], drawn_lying(source, 20, 90, 90)) for k in range(50)]
        begin = time.process_time()
        for kinds, lying in asked:
            placed_closely(kinds, lying)
        self.assertLess(time.process_time() - begin, 5)

    def test_stretches_that_touch_are_as_one(self):
        source = random.Random(7)
        for k in range(100):
            kinds = [source.choice(MIXED) for field in range(source.randint(0, 4))]
            lying = drawn_lying(source, source.randint(1, 6), 9, 6)
            parted = [(byte, byte + 1) for begin, end in lying for byte in range(begin, end)][:20]
            joined = []
            for begin, end in parted:
                if joined and joined[-1][1] == begin:
                    joined[-1] = (joined[-1][0], end)
                else:
                    joined.append((begin, end))
            self.assertEqual(self.is_placed(kinds, parted), self.is_placed(kinds, joined))

    def test_turned_about_the_end_is_the_same(self):
        source = random.Random(8)
        for k in range(60):
            kinds = [source.choice(MIXED) for field in range(4)]
            lying = drawn_lying(source, source.randint(0, 5), 9, 5)
            ends = [self.is_placed(list(turned), lying) for turned in itertools.permutations(kinds)]
            self.assertEqual(len(set(ends)), 1)

    def test_nothing_is_refused_for_lying_somewhat_beyond_the_bounds(self):
        self.assertEqual(self.is_placed([N11, N44, N31, N22, N88, N22, N11], []), 21)
        self.assertEqual(self.is_placed([number(9, 16), N11], []), 10)
        lying = [(8 * k, 8 * k + 5) for k in range(25)]
        self.assertEqual(self.is_placed([N31, N34, N22], lying), 203)

    def test_what_was_handed_in_stays(self):
        for kinds, lying, due in ENDS:
            before = repr((kinds, lying))
            placed_closely(kinds, lying)
            self.assertEqual(repr((kinds, lying)), before)

    def test_the_same_asked_again_is_answered_the_same(self):
        source = random.Random(9)
        for k in range(100):
            kinds = [source.choice([N11, N34, N22, N88, N31]) for field in range(5)]
            lying = drawn_lying(source, source.randint(0, 8), 9, 5)
            told = placed_closely(kinds, lying)
            again = placed_closely(list(kinds), list(lying))
            self.assertEqual(again, told)
            self.assertIsNot(again[0], told[0])
            told[0].clear()
            self.assertEqual(placed_closely(kinds, lying), again)
        placed_closely([], [])[0].append(1)
        self.assertEqual(placed_closely([], []), ([], 0))

    def test_what_is_handed_in_is_not_kept(self):
        inner = [("a", N11)]
        kinds = [("record", inner)]
        lying = [(0, 1)]
        self.assertEqual(placed_closely(kinds, lying), ([1], 2))
        inner.append(("b", N44))
        self.assertEqual(placed_closely(kinds, lying), ([4], 12))
        lying.append((8, 9))
        self.assertEqual(placed_closely(kinds, lying), ([12], 20))
        lying.clear()
        kinds.append(N11)
        self.assertEqual(placed_closely(kinds, lying)[1], 9)


class TestCloselyLaid(unittest.TestCase):
    def is_laid(self, some):
        told = closely_laid(some)
        self.assertIs(type(told), tuple)
        self.assertEqual([type(each) for each in told], [list, int])
        kinds = [kind for name, kind in some]
        self.assertEqual([type(place) for place in told[0]], [int] * len(some))
        self.assertTrue(is_reckoned_placing(kinds, [], told[0]), (some, told))
        self.assertEqual(told[1], reckoned_end(kinds, [], told[0]), (some, told))
        return told[1]

    def test_by_hand(self):
        self.assertEqual(closely_laid([("a", N11)]), ([0], 1))
        self.assertEqual(closely_laid([("a", N11), ("b", N44)]), ([4, 0], 5))
        self.assertEqual(closely_laid([("b", N44), ("a", N11)]), ([0, 4], 5))
        self.assertEqual(self.is_laid(fields(N11, N88, N11, N44, N22)), 16)
        self.assertEqual(self.is_laid(fields(N34, N34, N11)), 7)

    def test_drawn_fields(self):
        source = random.Random(10)
        kinds = drawn_kinds(200)
        for how_many in range(1, 6):
            for k in range(25):
                some = fields(*[source.choice(kinds) for field in range(how_many)])
                end = self.is_laid(some)
                self.assertEqual(end, least_end_of_orders([kind for name, kind in some], []))
                name, place = places_in_order(some)[-1]
                self.assertLessEqual(end, place + reckoned(some[-1][1])[0])
                turned = [("x" + name, kind) for name, kind in source.sample(some, how_many)]
                self.assertEqual(self.is_laid(turned), end)

    def test_what_was_handed_in_stays_and_what_is_told_is_the_asker_s_own(self):
        some = fields(N11, N44, record(N22, N11), N31)
        before = repr(some)
        told = closely_laid(some)
        kept = (list(told[0]), told[1])
        told[0].append(7)
        self.assertEqual(closely_laid(some), kept)
        self.assertEqual(repr(some), before)


class TestIsPlacing(unittest.TestCase):
    def is_one_just_if(self, due, kinds, lying, places):
        before = repr((kinds, lying, places))
        self.assertIs(is_placing(kinds, lying, places), due, before)
        self.assertEqual(repr((kinds, lying, places)), before)

    def test_by_hand(self):
        placings = [
            (True, [], [], []), (True, [], [(0, 4)], []), (False, [], [], [0]), (False, [N11], [], []),
            (True, [N11], [], [0]), (True, [N11], [], [10 ** 40]), (False, [N11], [], [-1]), (False, [N11], [], [0, 1]),
            (True, [N44], [], [4]), (False, [N44], [], [2]), (False, [N44], [], [5]), (False, [N44], [], [-4]),
            (True, [N44, N11], [], [0, 4]), (True, [N44, N11], [], [4, 0]), (True, [N44, N11], [], [4, 3]),
            (True, [N44, N11], [], [4, 8]), (False, [N44, N11], [], [4, 4]), (False, [N44, N11], [], [4, 7]),
            (False, [N44, N11], [], [3, 4]), (False, [N44, N11], [], [0]), (False, [N44, N11], [], [0, 4, 8]),
            (True, [N34, N11], [], [0, 3]), (False, [N34, N11], [], [0, 2]), (True, [N11, N34], [], [3, 0]),
            (False, [N31, N31], [], [5, 5]), (False, [N31, N31], [], [5, 7]), (True, [N31, N31], [], [5, 8]),
            (True, [N31, N31], [], [8, 5]), (False, [N31, N31], [], [7, 5]), (False, [N51, N11], [], [0, 2]),
            (True, [N44], [(0, 4)], [4]), (False, [N44], [(0, 5)], [4]), (True, [N44], [(8, 9)], [4]),
            (False, [N44], [(7, 9)], [4]), (False, [N44], [(5, 6)], [4]), (False, [N11], [(0, 9)], [4]),
            (True, [N11], [(0, 4), (5, 9)], [4]), (False, [N11], [(0, 4), (4, 9)], [4]), (True, [N11], [(0, 4)], [9]),
            (False, [record(N11, N44)], [(1, 2)], [0]), (False, [choice(N11, N44)], [(1, 2)], [0]),
            (False, [row(N34, 2)], [(7, 8)], [0]), (True, [N34], [(3, 4)], [0]), (False, [row(N34, 1)], [(3, 4)], [0]),
        ]
        for each in placings:
            self.is_one_just_if(*each)

    def test_all_places_of_small_fields(self):
        for kinds in itertools.product([N11, N31, N34, N22, N24], repeat=2):
            for lying in [[], [(0, 1)], [(3, 5)], [(2, 4), (4, 5), (8, 9)]]:
                for places in itertools.product(range(-4, 12), repeat=2):
                    due = is_reckoned_placing(kinds, lying, places)
                    self.is_one_just_if(due, list(kinds), lying, list(places))

    def test_all_places_of_three_fields(self):
        for kinds in [[N11, N22, N31], [N34, N11, N32], [N44, N44, N44]]:
            for lying in [[], [(4, 5)]]:
                for places in itertools.product(range(-1, 11), repeat=3):
                    self.is_one_just_if(is_reckoned_placing(kinds, lying, places), kinds, lying, list(places))

    def test_around_told_placings(self):
        source = random.Random(11)
        some = drawn_kinds(60) + MIXED
        for k in range(150):
            kinds = [source.choice(some) for field in range(source.randint(1, 5))]
            lying = drawn_lying(source, source.randint(0, 20), 12, 12)
            places = placed_closely(kinds, lying)[0]
            self.is_one_just_if(True, kinds, lying, places)
            self.is_one_just_if(False, kinds, lying, places[:-1])
            self.is_one_just_if(False, kinds, lying, places + [10 ** 6])
            self.is_one_just_if(False, kinds, lying, [])
            for field, place in enumerate(places):
                for other in [place - 1, place + 1, -1, -place - 8, place + 8, 0] + places + [end for at, end in lying]:
                    moved = places[:field] + [other] + places[field + 1:]
                    self.is_one_just_if(is_reckoned_placing(kinds, lying, moved), kinds, lying, moved)
            for one, other in itertools.combinations(range(len(places)), 2):
                turned = list(places)
                turned[one], turned[other] = turned[other], turned[one]
                self.is_one_just_if(is_reckoned_placing(kinds, lying, turned), kinds, lying, turned)

    def test_in_any_order(self):
        for turned in itertools.permutations([0, 3, 6, 9]):
            self.is_one_just_if(True, [N31] * 4, [(12, 13)], list(turned))
            self.is_one_just_if(False, [N31] * 4, [(11, 13)], list(turned))

    def test_things_that_are_no_list_of_whole_numbers(self):
        for thing in [thing for thing in STRANGE if thing.__class__ is not list] + [(0,), {0: 0}, "0"]:
            self.assertIs(is_placing([N11], [], thing), False)
        for thing in STRANGE:
            if not (type(thing) is int and thing >= 0):
                self.assertIs(is_placing([N11], [], [thing]), False)
                self.assertIs(is_placing([N11, N11], [], [5, thing]), False)

    def test_the_same_asked_again(self):
        places = [4, 0]
        self.is_one_just_if(True, [N44, N11], [], places)
        places[1] = 5
        self.is_one_just_if(False, [N44, N11], [], places)
        places[1] = 0
        self.is_one_just_if(True, [N44, N11], [], places)


if __name__ == "__main__":
    unittest.main()
