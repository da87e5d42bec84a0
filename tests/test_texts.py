"""Promise 19: the one writing of kinds, values and bytes, and what is read from it."""
import itertools
import random
import re
import unittest

from laidfields.errors import FieldError, NoText
from laidfields.kinds import is_kind
from laidfields.texts import read_bytes, read_kind, read_value, show_bytes, show_kind, show_value
from laidfields.values import bytes_of, is_value, value_of
from tests.samples import (
    STRANGE, WRAPS, Sullen, are_apart, are_same, choice, drawn_kinds, drawn_value, number, record, row, spoil, wrapped,
)

N11, N22, N34, N44, N88 = (number(*each) for each in [(1, 1), (2, 2), (3, 4), (4, 4), (8, 8)])
PAIR = record(N11, N44)
EITHER = choice(N11, N44)

KINDS = [
    (N44, "n4/4"), (N11, "n1/1"), (number(8, 1), "n8/1"), (number(3, 8), "n3/8"), (number(1, 2), "n1/2"),
    (row(N11, 2), "n1/1*2"), (row(row(N11, 2), 3), "n1/1*2*3"), (row(N44, 1), "n4/4*1"), (row(N34, 20), "n3/4*20"),
    (row(row(row(row(N11, 1), 2), 3), 10), "n1/1*1*2*3*10"),
    (PAIR, "{a n1/1, b n4/4}"), (record(N11), "{a n1/1}"), (("record", [("abcdefgh", N11)]), "{abcdefgh n1/1}"),
    (("record", [("z", N22), ("n", N11), ("aa", N88)]), "{z n2/2, n n1/1, aa n8/8}"),
    (record(*[N11] * 8), "{a n1/1, b n1/1, c n1/1, d n1/1, e n1/1, f n1/1, g n1/1, h n1/1}"),
    (EITHER, "<n1/1, n4/4>"), (choice(N11), "<n1/1>"), (choice(*[N22] * 6), "<n2/2, n2/2, n2/2, n2/2, n2/2, n2/2>"),
    (row(PAIR, 2), "{a n1/1, b n4/4}*2"), (row(row(EITHER, 2), 3), "<n1/1, n4/4>*2*3"),
    (record(row(N11, 2), EITHER), "{a n1/1*2, b <n1/1, n4/4>}"),
    (choice(PAIR, row(N11, 2)), "<{a n1/1, b n4/4}, n1/1*2>"),
    (record(record(N11)), "{a {a n1/1}}"), (choice(choice(N11), N22), "<<n1/1>, n2/2>"),
    (choice(row(record(row(N11, 2)), 3)), "<{a n1/1*2}*3>"), (choice(choice(choice(choice(N11)))), "<<<<n1/1>>>>"),
    (record(record(record(record(N11)))), "{a {a {a {a n1/1}}}}"),
    (row(choice(row(record(N11), 2)), 3), "<{a n1/1}*2>*3"),
]

NO_KINDS = [
    "", " ", "n", "n4", "n4/", "/4", "4/4", "n/4", "n4/4 ", " n4/4", "n4 /4", "n4/ 4", "n 4/4", "n4/4\n", "\tn4/4",
    "N4/4", "n0/1", "n9/1", "n10/1", "n1/0", "n1/3", "n1/5", "n1/6", "n1/7", "n1/9", "n1/16", "n01/1", "n1/01", "n00/1",
    "n1/00", "n04/4", "n4/04", "n-1/1", "n+1/1", "n1/-1", "n1.0/1", "n1/1/1", "n1//1", "nn1/1", "n4/4n4/4", "n4/4 n4/4",
    "n4/4, n4/4", "n4\\4", "m4/4", "number", "n\u0664/4", "n4/\u00b2", "n4/4*\u0662", "n" + "1" * 5000 + "/1",
    "n1/" + "1" * 5000, "n1/1*", "n1/1*0", "n1/1*21", "n1/1*100", "n1/1*01", "n1/1*00", "n1/1*-1", "n1/1*+1",
    "n1/1* 2", "n1/1 *2", "n1/1*2 ",
    "n1/1**2", "n1/1*2*", "n1/1*2*0", "n1/1*2*21", "n1/1*a", "*2", "2*n1/1", "n1/1*n1/1", "n1/1x2",
    "n1/1*" + "1" * 5000, "n1/1[2]", "[n1/1]", "n1/1*1*1*1*1*1", "n1/1*2*2*2*2*2", "n1/1" + "*1" * 2000, "(n1/1)",
    "(n1/1)*2", "{}", "{ }", "{", "}", "{a}", "{a }", "{a n1/1", "a n1/1}", "a n1/1", "{n1/1}", "{ n1/1}", "{a n1/1 }",
    "{ a n1/1}", "{a  n1/1}", "{an1/1}", "{a:n1/1}", "{a n1/1,}", "{a n1/1, }", "{,a n1/1}", "{a n1/1,b n1/1}",
    "{a n1/1 , b n1/1}", "{a n1/1,  b n1/1}", "{a n1/1 b n1/1}", "{a n1/1; b n1/1}", "{a n1/1, a n1/1}",
    "{a n1/1, b n1/1, a n4/4}", "{A n1/1}", "{a1 n1/1}", "{abcdefghi n1/1}", "{\u00e4 n1/1}", "{a_b n1/1}", "{a n9/1}",
    "{a n1/1, b n0/1}", "{a n1/1, b}", "{a n1/1, n1/1}",
    "{a n1/1, b n1/1, c n1/1, d n1/1, e n1/1, f n1/1, g n1/1, h n1/1, i n1/1}",
    "{a n1/1>", "{a n1/1]", "{a n1/1)", "{a n1/1}}", "{{a n1/1}", "{{a n1/1}}", "{a n1/1}{b n1/1}",
    "{a n1/1}, {a n1/1}", "{a n1/1}*", "{a n1/1} *2", "{a n1/1, {b n1/1}}", "{a\nn1/1}", "{a n1/1,\nb n1/1}",
    "{a\tn1/1}", "<>", "< >", "<", ">", "<n1/1", "n1/1>", "< n1/1>", "<n1/1 >", "<n1/1,>", "<n1/1, >", "<,n1/1>",
    "<n1/1,n1/1>", "<n1/1,  n1/1>", "<n1/1 , n1/1>", "<n1/1 n1/1>", "<n1/1; n1/1>", "<n1/1|n1/1>", "<a n1/1>", "<n9/1>",
    "<n1/1, n1/3>", "<n1/1, n1/1, n1/1, n1/1, n1/1, n1/1, n1/1>", "<n1/1}", "<n1/1]", "<n1/1>>", "<<n1/1>",
    "<n1/1><n1/1>", "<n1/1>,", "<<<<<n1/1>>>>>", "{a {a {a {a {a n1/1}}}}}", "<<<<n1/1*2>>>>", "{a <{a <n1/1*2>}>}",
    "<<<n1/1*2>*3>>", "<<n1/1*2*3>>*1", "<" * 4000, "{a " * 1300, "<" * 100000, "{a " * 100000,
    "<" * 100000 + "n1/1" + ">" * 100000,
    "n1/1" + "*1" * 100000, "n1/1*2,", "{a <n1/1}>", "<{a n1/1>}", "<{a n1/1>}*2", "-", "0", "00", "[0]", "{a 0}",
    "0:0", "none", "kind",
    "('number', 4, 4)", "\u2003n4/4", "n4/4\0", "n4/4\r", "n4/4\x0b",
]

VALUES = [
    (N11, 0, "0"), (N11, 255, "255"), (N22, 256, "256"), (N88, 256 ** 8 - 1, "18446744073709551615"), (N34, 10, "10"),
    (row(N11, 1), [7], "[7]"), (row(N11, 3), [7, 0, 255], "[7, 0, 255]"),
    (row(row(N11, 2), 2), [[1, 2], [3, 4]], "[[1, 2], [3, 4]]"),
    (PAIR, {"b": 5, "a": 1}, "{a 1, b 5}"), (record(N11), {"a": 0}, "{a 0}"),
    (("record", [("z", N11), ("aa", N22)]), {"aa": 300, "z": 1}, "{z 1, aa 300}"),
    (EITHER, (0, 255), "0:255"), (EITHER, (1, 256), "1:256"), (choice(N11), (0, 0), "0:0"),
    (choice(*[N11] * 6), (5, 5), "5:5"),
    (choice(N11, EITHER), (1, (0, 5)), "1:0:5"), (choice(N11, PAIR), (1, {"a": 1, "b": 2}), "1:{a 1, b 2}"),
    (row(EITHER, 2), [(0, 1), (1, 2)], "[0:1, 1:2]"),
    (record(EITHER, row(N11, 2)), {"a": (1, 9), "b": [1, 2]}, "{a 1:9, b [1, 2]}"),
    (row(record(row(N11, 2), N22), 2), [{"a": [1, 2], "b": 3}, {"a": [4, 5], "b": 6}],
     "[{a [1, 2], b 3}, {a [4, 5], b 6}]"),
    (choice(row(N11, 2)), (0, [1, 2]), "0:[1, 2]"),
]

NO_VALUES = [
    (N11, ["", " ", "256", "300", "999", "1000", "00", "01", "000", "0255", "-1", "-0", "+1", "1 ", " 1", "1.0", "1e1",
           "a", "0x1", "1_0", "\u0661", "\u00b2", "1\n", "\t1", "[1]", "0:1", "{a 1}", "1, 1", "1 1", "n1/1", "-",
           "9" * 5000, "0" * 5000, "1" * 100000, "None", "True", "True", "ff"]),
    (N22, ["65536", "99999", "100000", "065535", "00", "6 5"]),
    (N88, ["18446744073709551616", "99999999999999999999", "018446744073709551615", "1" * 24, "1" * 25, "1" * 4301]),
    (row(N11, 2), ["", "[]", "[1]", "[1, 2, 3]", "[1,2]", "[1,  2]", "[1 , 2]", "[ 1, 2]", "[1, 2 ]", "[1 2]", "[1, 2",
                   "1, 2]", "1, 2", "(1, 2)", "[1, 2]]", "[[1, 2]", "[[1, 2]]", "[1, 256]", "[256, 1]", "[01, 2]",
                   "[1, 02]", "[1, 2],", "[1, ]", "[, 2]", "[1, 2, ]", "[1, 2} ", "{1, 2}", "[1; 2]", "[1, 2] ",
                   " [1, 2]", "[1,\n2]", "0",
                   "[-1, 2]"]),
    (row(N11, 1), ["[]", "[1, 1]", "1", "[1,]"]),
    (row(row(N11, 2), 2), ["[1, 2, 3, 4]", "[[1, 2]]", "[[1, 2], [3]]", "[[1, 2], [3, 4]", "[[1, 2],[3, 4]]",
                           "[[1, 2, [3, 4]]"]),
    (PAIR, ["", "{}", "{a 1}", "{b 1}", "{b 2, a 1}", "{a 1, b 2, c 3}", "{a 1, b 2, a 1}", "{a 1, a 1}", "{a 1,b 2}",
            "{a 1,  b 2}", "{a 1 , b 2}", "{ a 1, b 2}", "{a 1, b 2 }", "{a  1, b 2}", "{a:1, b 2}", "{a: 1, b: 2}",
            "{a1, b2}", "{a, b}", "{a 1 b 2}", "{a 1, b 2", "a 1, b 2}", "a 1, b 2", "[1, 2]", "{1, 2}", "{a 256, b 2}",
            "{a 1, b 4294967296}", "{a 01, b 2}", "{A 1, b 2}", "{aa 1, b 2}", "{a 1, bb 2}", "{a 1, b 2}}",
            "{{a 1, b 2}", "<a 1, b 2>", "{a 1, b 2} ",
            " {a 1, b 2}", "{a 1, b 2,}", "{a 1, b 2, }", "{, a 1, b 2}", "{a 1, c 2}", "{, b 2}", "{a 1; b 2}",
            "{a 1, b 2]", "{a\t1, b 2}", "{a 1, b}", "{a 1, b }"]),
    (("record", [("a", N11), ("ab", N11)]), ["{ab 1, a 1}", "{a 1, a 1}", "{ab 1}", "{ab 1, ab 1}", "{a b 1}"]),
    (EITHER, ["", ":", "0:", ":0", "0", "0:256", "1:4294967296", "2:0", "3:0", "6:0", "10:0", "00:0", "01:0", "0:00",
              "-1:0", "+0:0", "0 :0", "0: 0", "0:0 ", " 0:0", "0;0", "0::0", "0:0:0", "(0, 0)", "0,0", "0 0", "a:0",
              "0:a", "0:[0]", "<0:0>",
              "0:0\n", "1" * 5000 + ":0", "0:" + "1" * 5000, "256:0", "999:0", "1000:0", "0.0:0"]),
    (choice(N11, EITHER), ["1:0", "1:2:0", "0:0:0", "1:0:256", "1:0:", "1::0", "01:0:0", "1:00:0"]),
]

BYTES = [
    ([], "-"), ([0], "00"), ([255], "ff"), ([1, 2], "01 02"), ([9, 10, 15, 16], "09 0a 0f 10"),
    ([171, 205, 239], "ab cd ef"), ([0] * 3, "00 00 00"), ([160, 26], "a0 1a"),
]

NO_BYTES = [
    "", " ", "--", "- ", " -", "-\n", "- -", "00 -", "- 00", "0", "000", "0000", "00 0", "0 00", "00  00", "00 00 ",
    " 00", "00\n", "00\t00", "00\n00", "00,00", "00, 00", "FF", "Ff", "fF", "0A", "g0", "0g", "0x00", "-1", "+1", "1 ",
    " 1 ", "zz", "[0]",
    "none", "{}", "\u0660\u0660", "00 \u00b2\u00b2", "0_", "_0", "1_0", "00 0\u00bd", "00 00 0", "00 000", "ff ff  ff",
    "00\x0000", "f", "0 0 0", "\uff10\uff10", "00\u00a000", "00\u200300",
]


class TextCase(unittest.TestCase):
    def is_refused(self, act, *things):
        before = repr(things)[:100000]
        with self.assertRaises(FieldError) as caught:
            act(*things)
        self.assertIs(type(caught.exception), NoText, repr(things)[:300])
        self.assertEqual(repr(things)[:100000], before)

    def is_shown(self, told, due):
        self.assertIs(type(told), str)
        self.assertEqual(told, due)

    def spoilt(self, source, text, signs):
        """A text with some sign more, less, or another one, or two parts turned about."""
        place, other = (source.randint(0, len(text)) for k in range(2))
        return source.choice([
            text[:place] + source.choice(signs) + text[place:],
            text[:place] + source.choice(signs) + text[place + 1:],
            text[:place] + text[place + 1:],
            text[:place],
            text[place:],
            text[:place] + text[place:other] + text[place:],
            text[other:] + text[:other],
        ])


class TestKinds(TextCase):
    def test_by_hand(self):
        for kind, text in KINDS:
            self.is_shown(show_kind(kind), text)
            self.assertTrue(are_same(read_kind(text), kind), text)

    def test_each_number(self):
        for w in range(0, 13):
            for m in range(0, 18):
                text = f"n{w}/{m}"
                if 1 <= w <= 8 and m in (1, 2, 4, 8):
                    self.is_shown(show_kind(number(w, m)), text)
                    self.assertEqual(read_kind(text), number(w, m))
                else:
                    self.is_refused(read_kind, text)

    def test_each_length_of_a_row(self):
        for n in range(0, 130):
            text = f"n1/1*{n}"
            if 1 <= n <= 20:
                self.is_shown(show_kind(row(N11, n)), text)
                self.assertEqual(read_kind(text), row(N11, n))
            else:
                self.is_refused(read_kind, text)

    def test_how_many_fields_and_choices(self):
        names = "abcdefghijkl"
        for count in range(1, 12):
            fields = "{" + ", ".join(f"{name} n1/1" for name in names[:count]) + "}"
            chosen = "<" + ", ".join(["n1/1"] * count) + ">"
            for text, kind, most in [(fields, record(*[N11] * count), 8), (chosen, choice(*[N11] * count), 6)]:
                self.is_shown(show_kind(kind), text)
                if count <= most:
                    self.assertEqual(read_kind(text), kind)
                else:
                    self.is_refused(read_kind, text)

    def test_depths(self):
        for depth in range(1, 8):
            for wraps in itertools.product([WRAPS[0], WRAPS[2], WRAPS[6]], repeat=depth - 1):
                kind = wrapped(N34, wraps)
                text = show_kind(kind)
                if depth <= 5:
                    self.assertTrue(are_same(read_kind(text), kind), text)
                else:
                    self.is_refused(read_kind, text)

    def test_drawn_kinds(self):
        for kind in drawn_kinds(400):
            text = show_kind(kind)
            self.is_shown(text, self.reckoned_text(kind))
            self.assertTrue(are_same(read_kind(text), kind), text)

    def reckoned_text(self, kind):
        """The writing of a kind, told once more: by what stands around its parts."""
        if kind[0] == "number":
            return "n%d/%d" % kind[1:]
        if kind[0] == "row":
            return "%s*%d" % (self.reckoned_text(kind[1]), kind[2])
        if kind[0] == "record":
            return "{%s}" % ", ".join("%s %s" % (name, self.reckoned_text(inner)) for name, inner in kind[1])
        return "<%s>" % ", ".join(map(self.reckoned_text, kind[1]))

    def test_texts_that_write_no_kind(self):
        for text in NO_KINDS:
            self.is_refused(read_kind, text)

    def test_things_that_are_no_text(self):
        for thing in STRANGE + [N11, ["n1/1"], b"n1/1", ("n1/1",), {"n1/1": 1}, list("n1/1"), Sullen()]:
            if thing.__class__ is not str or thing != "n1/1":
                self.is_refused(read_kind, thing)

    def test_every_other_text(self):
        """What is read is a kind, and just this text is its writing; else it is refused."""
        source = random.Random(1)
        texts = [text for kind, text in KINDS] + [show_kind(kind) for kind in drawn_kinds(60)]
        read = 0
        for text in texts:
            for k in range(120):
                other = self.spoilt(source, text, "n{}<>,*/ 0123489abz\n\tN-:[]")
                try:
                    kind = read_kind(other)
                except FieldError as error:
                    self.assertIs(type(error), NoText)
                    self.assertNotIn(other, texts)
                else:
                    read += 1
                    self.assertIs(is_kind(kind), True, other)
                    self.assertEqual(show_kind(kind), other)
        self.assertGreater(read, 200)

    def test_each_short_text(self):
        for signs in itertools.product("n14/*<>", repeat=6):
            text = "".join(signs)
            if re.fullmatch(r"n[14]/[14]\*[14]|<n[14]/[14]>", text):
                self.assertEqual(show_kind(read_kind(text)), text)
            else:
                self.is_refused(read_kind, text)

    def test_what_is_told_is_new(self):
        for kind, text in KINDS:
            one, other = read_kind(text), read_kind(text)
            self.assertTrue(are_apart(one, other, kind))
            spoil(one)
            self.assertEqual(read_kind(text), kind)
            before = repr(kind)
            show_kind(kind)
            self.assertEqual(repr(kind), before)

    def test_a_kind_is_shown_somewhat_beyond_the_bounds(self):
        for kind, text in [(number(9, 16), "n9/16"), (row(N11, 21), "n1/1*21"), (row(N11, 100), "n1/1*100"),
                           (wrapped(N11, [lambda kind: choice(kind)] * 6), "<<<<<<n1/1>>>>>>")]:
            self.is_shown(show_kind(kind), text)
            self.is_refused(read_kind, text)


class TestValues(TextCase):
    def test_by_hand(self):
        for kind, value, text in VALUES:
            self.is_shown(show_value(kind, value), text)
            self.assertTrue(are_same(read_value(kind, text), value), text)

    def test_numbers(self):
        for w in range(1, 9):
            greatest = 256 ** w - 1
            for value in [0, 1, 9, 10, 99, 100, 255, greatest // 2, greatest - 1, greatest]:
                if value <= greatest:
                    self.is_shown(show_value(number(w, 1), value), str(value))
                    self.assertEqual(read_value(number(w, 1), str(value)), value)
                    self.is_refused(read_value, number(w, 1), "0" + str(value))
            for value in [greatest + 1, greatest + 2, 10 * greatest, 256 ** (w + 1), 10 ** (3 * w), 10 ** (3 * w) - 1]:
                self.is_refused(read_value, number(w, 1), str(value))

    def test_drawn_kinds(self):
        source = random.Random(2)
        for kind in drawn_kinds(250):
            value = drawn_value(source, kind)
            text = show_value(kind, value)
            self.is_shown(text, self.reckoned_text(kind, value))
            self.assertTrue(are_same(read_value(kind, text), value), text)

    def reckoned_text(self, kind, value):
        if kind[0] == "number":
            return "%d" % value
        if kind[0] == "row":
            return "[%s]" % ", ".join(self.reckoned_text(kind[1], each) for each in value)
        if kind[0] == "record":
            return "{%s}" % ", ".join("%s %s" % (name, self.reckoned_text(inner, value[name])) for name,
                                      inner in kind[1])
        return "%d:%s" % (value[0], self.reckoned_text(kind[1][value[0]], value[1]))

    def test_each_choice(self):
        for count in range(1, 7):
            kind = choice(*[N11] * count)
            for mark in range(0, 300):
                if mark < count:
                    self.assertEqual(read_value(kind, f"{mark}:7"), (mark, 7))
                    self.is_shown(show_value(kind, (mark, 7)), f"{mark}:7")
                else:
                    self.is_refused(read_value, kind, f"{mark}:7")

    def test_texts_that_write_no_value(self):
        for kind, texts in NO_VALUES:
            for text in texts:
                self.is_refused(read_value, kind, text)
                self.is_refused(read_value, row(kind, 1), f"[{text}]")
                self.is_refused(read_value, record(N11, kind), "{a 1, b " + text + "}")
                self.is_refused(read_value, choice(kind), f"0:{text}")

    def test_things_that_are_no_text(self):
        for kind in [N11, row(N11, 1), PAIR, EITHER]:
            for thing in STRANGE + [5, [5], b"5", ("5",), {"a": 1, "b": 2}, (0, 5), ["0", ":", "5"], Sullen()]:
                self.is_refused(read_value, kind, thing)

    def test_every_other_text(self):
        source = random.Random(3)
        read = 0
        for kind in [kind for kind, value, text in VALUES] + drawn_kinds(60):
            text = show_value(kind, drawn_value(source, kind))
            for k in range(80):
                other = self.spoilt(source, text[:400] if k % 4 == 0 else text, "0123456789,:[]{} ab<>-n\n")
                try:
                    value = read_value(kind, other)
                except FieldError as error:
                    self.assertIs(type(error), NoText)
                    self.assertNotEqual(other, text)
                else:
                    read += 1
                    self.assertIs(is_value(kind, value), True, other)
                    self.assertEqual(show_value(kind, value), other)
        self.assertGreater(read, 200)

    def test_a_value_is_read_by_its_kind(self):
        due = [
            (row(N11, 2), "[1, 2]", [1, 2]), (row(N22, 2), "[1, 300]", [1, 300]), (row(N11, 2), "[1, 300]", None),
            (choice(N11, EITHER), "1:1:5", (1, (1, 5))), (choice(EITHER, N11), "1:1:5", None),
            (choice(EITHER, N11), "0:1:5", (0, (1, 5))), (choice(N11, PAIR), "0:{a 1, b 2}", None),
            (choice(PAIR, N11), "0:{a 1, b 2}", (0, {"a": 1, "b": 2})),
            (record(N44, N11), "{a 300, b 2}", {"a": 300, "b": 2}),
            (PAIR, "{a 300, b 2}", None), (("record", [("b", N44), ("a", N11)]), "{a 1, b 2}", None),
            (("record", [("b", N44), ("a", N11)]), "{b 2, a 1}", {"a": 1, "b": 2}),
        ]
        for kind, text, value in due:
            if value is None:
                self.is_refused(read_value, kind, text)
            else:
                self.assertEqual(read_value(kind, text), value)

    def test_what_is_told_is_new(self):
        source = random.Random(4)
        for kind in drawn_kinds(60):
            value = drawn_value(source, kind)
            before = repr((kind, value))
            text = show_value(kind, value)
            self.assertEqual(repr((kind, value)), before)
            one, other = read_value(kind, text), read_value(kind, text)
            self.assertTrue(are_apart(one, other, kind, value))
            self.assertEqual(one, other)
            spoil(one)
            self.assertEqual(read_value(kind, text), value)

    def test_what_is_no_value_is_not_shown(self):
        for kind, thing in [(N11, 256), (N11, True), (N11, None), (row(N11, 2), [1]), (row(N11, 2), (1, 2)),
                            (PAIR, {"a": 1}),
                            (EITHER, (2, 0)), (EITHER, [0, 0]), (N11, Sullen()), (PAIR, Sullen())]:
            self.is_refused(show_value, kind, thing)

    def test_somewhat_beyond_the_bounds(self):
        for kind, value, text in [(number(9, 16), 256 ** 9 - 1, str(256 ** 9 - 1)),
                                  (row(N11, 21), [3] * 21, "[" + "3, " * 20 + "3]"),
                                  (choice(*[N11] * 12), (11, 5), "11:5"),
                                  (wrapped(N11, [lambda kind: choice(kind)] * 6), (0, (0, (0, (0, (0, (0, 9)))))),
                                   "0:0:0:0:0:0:9")]:
            self.is_shown(show_value(kind, value), text)
            self.assertTrue(are_same(read_value(kind, text), value))


class TestBytes(TextCase):
    def test_by_hand(self):
        for some, text in BYTES:
            self.is_shown(show_bytes(some), text)
            self.assertTrue(are_same(read_bytes(text), some), text)

    def test_each_byte(self):
        for byte in range(256):
            self.is_shown(show_bytes([byte]), "%02x" % byte)
            self.assertEqual(read_bytes("%02x" % byte), [byte])
            self.is_shown(show_bytes([byte, 255 - byte]), bytes([byte, 255 - byte]).hex(" "))
        self.is_shown(show_bytes(list(range(256))), bytes(range(256)).hex(" "))
        self.assertEqual(read_bytes(bytes(range(256)).hex(" ")), list(range(256)))

    def test_many(self):
        source = random.Random(5)
        for count in [1, 2, 3, 100, 1333, 2000, 2100]:
            some = [source.randint(0, 255) for k in range(count)]
            self.is_shown(show_bytes(some), bytes(some).hex(" "))
            self.assertEqual(read_bytes(show_bytes(some)), some)

    def test_texts_that_write_no_bytes(self):
        for text in NO_BYTES:
            self.is_refused(read_bytes, text)

    def test_each_text_of_two_signs(self):
        signs = [chr(k) for k in range(256)]
        for text in map("".join, itertools.product(signs, repeat=2)):
            if all(sign in "0123456789abcdef" for sign in text):
                self.assertEqual(read_bytes(text), [int(text, 16)])
            else:
                self.is_refused(read_bytes, text)

    def test_things_that_are_no_text(self):
        for thing in STRANGE + [[0], b"00", ["00"], ("00",), 0, [], Sullen()]:
            self.is_refused(read_bytes, thing)

    def test_every_other_text(self):
        source = random.Random(6)
        for k in range(3000):
            some = [source.randint(0, 255) for byte in range(source.randint(0, 6))]
            text = self.spoilt(source, show_bytes(some), "0123456789abcdef -AFg\n")
            try:
                told = read_bytes(text)
            except FieldError as error:
                self.assertIs(type(error), NoText)
                self.assertNotRegex(text, r"\A(-|[0-9a-f]{2}( [0-9a-f]{2})*)\Z")
            else:
                self.assertRegex(text, r"\A(-|[0-9a-f]{2}( [0-9a-f]{2})*)\Z")
                self.assertEqual(show_bytes(told), text)

    def test_what_is_told_is_new(self):
        for some, text in BYTES:
            before = list(some)
            one, other = read_bytes(text), read_bytes(text)
            self.assertTrue(are_apart(one, other, some))
            spoil(one)
            self.assertEqual(read_bytes(text), some)
            show_bytes(some)
            self.assertEqual(some, before)

    def test_what_is_no_list_of_bytes_is_not_shown(self):
        for thing in [[256], [-1], [True], [None], ["00"], (0, 1), b"\0", "00", None, {0: 0}, Sullen(), [0, Sullen()]]:
            self.is_refused(show_bytes, thing)

    def test_bytes_of_values(self):
        source = random.Random(7)
        for kind in drawn_kinds(60):
            value = drawn_value(source, kind)
            text = show_bytes(bytes_of(kind, value))
            self.assertEqual(value_of(read_kind(show_kind(kind)), read_bytes(text)), value)


if __name__ == "__main__":
    unittest.main()
