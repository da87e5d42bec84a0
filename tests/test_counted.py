"""Promises 17 and 18: what a reader may count on."""
import random
import unittest

from laidfields.across import read_by, written
from laidfields.counted import names_apart, steady_names
from laidfields.errors import FieldError, NoMake
from laidfields.houses import House
from tests.samples import STRANGE, Sullen, add, are_apart, drawn_life, drop, number, record, row, spoil, told_of

N11, N22, N44 = number(1, 1), number(2, 2), number(4, 4)
SMALL = [number(w, m) for w in (1, 3, 8) for m in (1, 2, 4, 8)] + [record(N11, N44), row(N11, 3)]


def by_hand():
    house = House([("z", N11, 1), ("a", N44, 2), ("m", N22, 3)])
    house.next_make([add("b", N11, 4), drop("a")])
    house.next_make([add("a", N44, 2)])
    house.next_make([drop("z"), add("z", N11, 1), drop("m")])
    house.next_make([])
    return house


NAMES = [["z", "a", "m"], ["z", "m", "b"], ["z", "m", "b", "a"], ["b", "a", "z"], ["b", "a", "z"]]

# a, b not below a; both, a's alone, b's alone.
APART = [
    (0, 0, ["z", "a", "m"], [], []),
    (0, 1, ["z", "m"], ["a"], ["b"]),
    (0, 2, ["z", "m"], ["a"], ["b", "a"]),
    (0, 3, [], ["z", "a", "m"], ["b", "a", "z"]),
    (0, 4, [], ["z", "a", "m"], ["b", "a", "z"]),
    (1, 1, ["z", "m", "b"], [], []),
    (1, 2, ["z", "m", "b"], [], ["a"]),
    (1, 3, ["b"], ["z", "m"], ["a", "z"]),
    (2, 3, ["b", "a"], ["z", "m"], ["z"]),
    (2, 4, ["b", "a"], ["z", "m"], ["z"]),
    (3, 4, ["b", "a", "z"], [], []),
    (4, 4, ["b", "a", "z"], [], []),
]


class TestCounted(unittest.TestCase):
    def is_refused(self, act, house, *things):
        before = told_of(house)
        with self.assertRaises(FieldError) as caught:
            act(house, *things)
        self.assertIs(type(caught.exception), NoMake, repr(things))
        self.assertEqual(told_of(house), before)

    def test_names_apart_by_hand(self):
        house = by_hand()
        self.assertEqual([[field[0] for field in house.fields_of(make)] for make in range(5)], NAMES)
        for a, b, both, alone, other in APART:
            self.assertEqual(names_apart(house, a, b), (both, alone, other))
            self.assertEqual(names_apart(house, b, a), (both, other, alone))

    def test_steady_names_by_hand(self):
        house = by_hand()
        for a, b, both, alone, other in APART:
            self.assertEqual(steady_names(house, a, b), both)

    def test_kinds_of_what_is_told(self):
        house = by_hand()
        for a in range(5):
            for b in range(5):
                told = names_apart(house, a, b)
                self.assertIs(type(told), tuple)
                self.assertEqual([type(names) for names in told], [list] * 3)
                if a <= b:
                    self.assertIs(type(steady_names(house, a, b)), list)

    def test_an_empty_house(self):
        house = House([])
        self.assertEqual(names_apart(house, 0, 0), ([], [], []))
        self.assertEqual(steady_names(house, 0, 0), [])
        house.next_make([add("a")])
        self.assertEqual(names_apart(house, 0, 1), ([], [], ["a"]))
        self.assertEqual(names_apart(house, 1, 0), ([], ["a"], []))
        self.assertEqual(steady_names(house, 0, 1), [])

    def test_a_name_that_was_dropped_and_came_again(self):
        for between in [0, 1, 2]:
            house = House([("a", N11, 0), ("b", N11, 0)])
            if between:
                house.next_make([drop("a")])
                for k in range(between - 1):
                    house.next_make([])
                last = house.next_make([add("a", N11, 0)])
            else:
                last = house.next_make([drop("a"), add("a", N11, 0)])
            self.assertEqual(names_apart(house, 0, last), (["b"], ["a"], ["a"]))
            self.assertEqual(names_apart(house, last, 0), (["b"], ["a"], ["a"]))
            self.assertEqual(steady_names(house, 0, last), ["b"])
            self.assertEqual(names_apart(house, last, last), (["b", "a"], [], []))

    def test_what_one_list_adds_and_drops(self):
        house = House([("a", N11, 0)])
        house.next_make([add("b"), drop("b")])
        self.assertEqual(names_apart(house, 0, 1), (["a"], [], []))
        house.next_make([drop("a"), add("a"), drop("a")])
        self.assertEqual(names_apart(house, 1, 2), ([], ["a"], []))

    def test_drawn_houses(self):
        source = random.Random(1)
        for k in range(120):
            life = drawn_life(source, SMALL)
            house = life.lead(House)
            makes = range(len(life.makes))
            for a in makes:
                for b in makes:
                    self.assertEqual(names_apart(house, a, b), self.reckoned_apart(life, a, b))
                    if a <= b:
                        self.assertEqual(steady_names(house, a, b), self.reckoned_steady(life, a, b))

    def reckoned_apart(self, life, a, b):
        of_a, of_b = life.makes[a], life.makes[b]
        both = [field[1] for field in of_a if field in of_b]
        alone = [field[1] for field in of_a if field not in of_b]
        return both, alone, [field[1] for field in of_b if field not in of_a]

    def reckoned_steady(self, life, a, b):
        serials = [set(life.serials(make)) for make in range(a, b + 1)]
        return [field[1] for field in life.makes[b] if all(field[0] in some for some in serials)]

    def test_steady_names_are_read_alike_by_each_make_between(self):
        source = random.Random(2)
        for k in range(20):
            life = drawn_life(source, SMALL)
            house = life.lead(House)
            last = len(life.makes) - 1
            for a in range(last + 1):
                for b in range(a, last + 1):
                    steady = steady_names(house, a, b)
                    for make in range(a, b + 1):
                        value = life.drawn_value(source, make)
                        some = written(house, make, value)
                        for other in range(a, b + 1):
                            told = read_by(house, make, other, some)
                            self.assertEqual([told[name] for name in steady], [value[name] for name in steady])

    def test_makes_that_are_none(self):
        house = by_hand()
        wrong = [5, 6, -1, -5, 10 ** 40, "0", "1", (0,), [0], {0: 0}, Sullen()]
        wrong += [thing for thing in STRANGE if isinstance(thing, bool) or not isinstance(thing, int)]
        for thing in wrong:
            for act in [names_apart, steady_names]:
                for make in range(5):
                    self.is_refused(act, house, thing, make)
                    self.is_refused(act, house, make, thing)
                self.is_refused(act, house, thing, thing)

    def test_steady_from_a_make_above(self):
        house = by_hand()
        for a in range(5):
            for b in range(5):
                if a > b:
                    self.is_refused(steady_names, house, a, b)
                else:
                    steady_names(house, a, b)

    def test_what_is_told_is_the_asker_s_own(self):
        house = by_hand()
        for a in range(5):
            for b in range(5):
                told = [names_apart(house, a, b) for k in range(3)]
                if a <= b:
                    told += [(steady_names(house, a, b),) for k in range(2)]
                self.assertTrue(are_apart(*told))
                self.assertEqual(told[0], told[1])
                spoil(told)
                self.assertEqual(names_apart(house, a, b), self.due(a, b))
        self.assertEqual(told_of(house), told_of(by_hand()))

    def due(self, a, b):
        house = by_hand()
        return names_apart(house, a, b)

    def test_later_makes_change_nothing_told_of_earlier_ones(self):
        house = by_hand()
        before = [names_apart(house, a, b) for a in range(5) for b in range(5)]
        house.next_make([drop("b"), add("q"), drop("a"), add("a")])
        self.assertEqual([names_apart(house, a, b) for a in range(5) for b in range(5)], before)
        self.assertEqual(names_apart(house, 4, 5), (["z"], ["b", "a"], ["q", "a"]))
        self.assertEqual(steady_names(house, 3, 5), ["z"])


if __name__ == "__main__":
    unittest.main()
