"""Promise 5: what is a kind, told of anything."""
import itertools
import unittest

from laidfields.kinds import is_kind
from tests.samples import (
    LETTERS, STRANGE, WRAPS, WRONG_FORMS, choice, drawn_kinds, number, record, row, wrapped,
)

N1 = number(1, 1)
SORTS = [lambda kind: row(kind, 1), lambda kind: record(kind), lambda kind: choice(kind)]


class TestIsKind(unittest.TestCase):
    def is_one(self, thing):
        self.assertIs(is_kind(thing), True, repr(thing)[:200])

    def is_none(self, thing):
        self.assertIs(is_kind(thing), False, repr(thing)[:200])

    def is_one_just_if(self, due, thing):
        self.assertIs(is_kind(thing), due, repr(thing)[:200])

    def test_numbers(self):
        for w in list(range(-3, 20)) + [256, 10 ** 40, -10 ** 40]:
            for m in list(range(-3, 20)) + [32, 64, 10 ** 40]:
                self.is_one_just_if(1 <= w <= 8 and m in (1, 2, 4, 8), number(w, m))

    def test_rows(self):
        for kind in [N1, number(8, 8), row(N1, 3), record(N1, N1), choice(N1, N1)]:
            for n in list(range(-3, 30)) + [100, 10 ** 40, -10 ** 40]:
                self.is_one_just_if(1 <= n <= 20, row(kind, n))

    def test_how_many_fields(self):
        for n in list(range(0, 12)) + [20, 26]:
            self.is_one_just_if(1 <= n <= 8, record(*[N1] * n))
        self.is_none(("record", [("a", N1)] * 2000))

    def test_how_many_choices(self):
        for n in list(range(0, 12)) + [20, 2000]:
            self.is_one_just_if(1 <= n <= 6, choice(*[N1] * n))

    def test_choices_of_unlike_kinds(self):
        self.is_one(choice(N1, number(4, 4), row(N1, 2), record(N1), choice(N1), N1))

    def test_how_long_names(self):
        for n in range(0, 30):
            self.is_one_just_if(1 <= n <= 8, ("record", [((LETTERS * 2)[:n], N1)]))
        self.is_one(("record", [("aaaaaaaa", N1), ("zzzzzzzz", N1), ("qrstuvwx", N1)]))

    def test_signs_of_names(self):
        signs = [chr(code) for code in range(0, 1200)] + ["\u1d43", "\u2170", "\uff41", "\U0001d41a", "\u0430", "\ufb01"]
        for sign in signs:
            due = sign in list(LETTERS)
            for name in [sign, "a" + sign, sign + "a", "a" + sign + "z"]:
                self.is_one_just_if(due, ("record", [(name, N1)]))

    def test_names_that_are_no_texts(self):
        no_texts = [thing for thing in STRANGE if not isinstance(thing, str)]
        for name in no_texts + [b"a", ["a"], ("a",), {"a": 1}, {"a"}]:
            self.is_none(("record", [(name, N1)]))
            self.is_none(("record", [("a", N1), (name, N1)]))

    def test_names_unlike(self):
        names = list("abcdefgh")
        self.is_one(("record", [(name, N1) for name in names]))
        for one, other in itertools.permutations(range(8), 2):
            twice = list(names)
            twice[one] = twice[other]
            self.is_none(("record", [(name, N1) for name in twice]))
        self.is_none(("record", [("ab", N1), ("ab", number(4, 4))]))
        self.is_one(("record", [("ab", N1), ("a", N1), ("b", N1), ("ba", N1), ("aa", N1)]))

    def test_a_name_may_stand_again_in_another_record(self):
        self.is_one(record(record(record(N1))))
        self.is_one(record(record(N1), record(N1), N1))
        self.is_one(choice(record(N1), record(N1)))

    def test_names_are_looked_at_within(self):
        for wrap in WRAPS:
            self.is_none(wrap(("record", [("a", N1), ("a", N1)])))
            self.is_none(wrap(("record", [("A", N1)])))
            self.is_none(wrap(("record", [("abcdefghi", N1)])))
            self.is_none(wrap(("record", [("", N1)])))

    def test_depth_of_five_and_of_six(self):
        for depth in range(1, 9):
            for sort in SORTS:
                self.is_one_just_if(depth <= 5, wrapped(N1, [sort] * (depth - 1)))

    def test_depth_of_mixed_sorts(self):
        for wraps in itertools.product(SORTS, repeat=4):
            self.is_one(wrapped(number(3, 4), wraps))
        for wraps in itertools.product(SORTS, repeat=5):
            self.is_none(wrapped(number(3, 4), wraps))

    def test_the_greatest_depth_counts(self):
        for wrap in WRAPS:
            self.is_one(wrap(wrapped(N1, [SORTS[0]] * 3)))
            self.is_none(wrap(wrapped(N1, [SORTS[0]] * 4)))

    def test_depth_is_not_how_many_there_are(self):
        kind = N1
        for k in range(4):
            kind = record(*[kind] * 8) if k % 2 else choice(*[kind] * 6)
        self.is_one(kind)
        self.is_none(row(kind, 1))

    def test_a_great_room_makes_it_none_the_less_a_kind(self):
        self.is_one(wrapped(number(8, 8), [lambda kind: row(kind, 20)] * 4))

    def test_drawn_kinds(self):
        for kind in drawn_kinds(200):
            self.is_one(kind)

    def test_strange_things(self):
        for thing in STRANGE:
            self.is_none(thing)

    def test_strange_things_in_each_place(self):
        for thing in STRANGE:
            whole = isinstance(thing, int) and not isinstance(thing, bool)
            if not (whole and thing in (1, 8)):
                self.is_none(("number", thing, 1))
                self.is_none(("number", 1, thing))
                self.is_none(("row", N1, thing))
            self.is_none(("row", thing, 1))
            self.is_none(("record", thing))
            self.is_none(("record", [thing]))
            self.is_none(("record", [("a", N1), thing]))
            self.is_none(("record", [("a", thing)]))
            self.is_none(("record", [("a", N1), ("b", thing), ("c", N1)]))
            self.is_none(("choice", thing))
            self.is_none(("choice", [thing]))
            self.is_none(("choice", [N1, thing, N1]))
            self.is_none((thing, 1))
            self.is_none((thing, [N1]))
            self.is_none((thing, thing, thing))
            self.is_none([thing, 1, 1])

    def test_truths_are_no_whole_numbers(self):
        for truth in [True, False]:
            for thing in [number(truth, 1), number(1, truth), number(truth, truth), row(N1, truth)]:
                self.is_none(thing)
                for wrap in WRAPS:
                    self.is_none(wrap(thing))

    def test_wrong_forms(self):
        for thing in WRONG_FORMS:
            self.is_none(thing)

    def test_wrong_things_at_any_depth(self):
        wrong = STRANGE + WRONG_FORMS + [
            number(0, 1), number(9, 1), number(1, 0), number(1, 3), number(1, 16), number(True, 1), number(1, True),
            row(N1, 0), row(N1, 21), row(N1, True), record(), record(*[N1] * 9), choice(), choice(*[N1] * 7),
        ]
        for thing in wrong:
            for one in WRAPS:
                self.is_none(one(thing))
                self.is_none(one(one(one(one(thing)))))
                for other in WRAPS:
                    self.is_none(one(other(thing)))
                    self.is_none(one(other(one(thing))))
        for one, other in itertools.product(WRAPS, repeat=2):
            self.is_one(one(other(one(N1))))

    def test_things_nested_far_deeper(self):
        for times in [20, 900, 100000]:
            for sort in SORTS + [lambda thing: (thing,), lambda thing: [thing], lambda thing: {"a": thing}]:
                self.assertIs(is_kind(wrapped(N1, [sort] * times)), False)
        deep = wrapped(N1, [SORTS[0]] * 100000)
        for thing in [number(deep, 1), number(1, deep), row(N1, deep), ("record", [(deep, N1)]), (deep, 1, 1)]:
            self.assertIs(is_kind(thing), False)

    def test_things_that_lie_within_themselves(self):
        some = []
        loop = ("choice", some)
        some.append(loop)
        some.append(loop)
        self.assertIs(is_kind(loop), False)
        some = []
        loop = ("record", some)
        some.append(("a", loop))
        self.assertIs(is_kind(loop), False)
        some = []
        some.append(some)
        self.assertIs(is_kind(some), False)
        self.assertIs(is_kind(("choice", some)), False)
        self.assertIs(is_kind(("record", some)), False)

    def test_what_was_handed_in_stays(self):
        for thing in drawn_kinds(60) + WRONG_FORMS:
            before = repr(thing)
            is_kind(thing)
            self.assertEqual(repr(thing), before)

    def test_the_answer_goes_by_what_the_thing_is_now(self):
        inner = [("a", N1)]
        kind = choice(("record", inner))
        self.is_one(kind)
        self.is_one(kind)
        inner.append(("a", N1))
        self.is_none(kind)
        inner.pop()
        self.is_one(kind)
        inner.clear()
        self.is_none(kind)


if __name__ == "__main__":
    unittest.main()
