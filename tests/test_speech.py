"""Promise 22, and 2 of it: names, keys and the seventeen kinds of words."""

import unittest

from farpage.speech import is_name, is_word
from tests.helper import NO_TEXTS, odd_signs

LETTERS = "abcdefghijklmnopqrstuvwxyz"
SETTING = (32, 2, 3, True)
KEY = ("ann", 7)
KEYS = [("a", 0), ("zzzzzzzz", 999), KEY]
ALL = tuple(range(16))
BARE = ("call", "ready", "clear", "fail", "end")
OF_A_KEY = ("good", "rough", "bad", "busy")

# One good word of each kind.
ONES = {
    "call": ("call",), "can": ("can", SETTING), "set": ("set", SETTING), "ready": ("ready",),
    "trial": ("trial", "000"), "clear": ("clear",), "fail": ("fail",), "page": ("page", KEY, "0110"),
    "piece": ("piece", KEY, 3, 1, "01"), "ended": ("ended", KEY, 3, ("bo", "cy")), "good": ("good", KEY),
    "rough": ("rough", KEY), "bad": ("bad", KEY), "lacks": ("lacks", KEY, (0, 2)), "busy": ("busy", KEY),
    "end": ("end",), "fetch": ("fetch", "ann"),
}
NO_NAMES = NO_TEXTS + [
    "", "abcdefghi", "A", "Ann", "anN", "a1", "1", "a b", " a", "a ", " ", "a_b", "a-b", ".", "ann/0", "`", "{",
    ("ann",), ["ann"], list("ann"),
]
NO_KEYS = NO_TEXTS + [
    "ann", "ann/0", 7, ["ann", 7], ("ann",), ("ann", 7, 7), ("ann", 7, None), (7, "ann"), ("ann", -1), ("ann", 1000),
    ("ann", True), ("ann", False), ("ann", "7"), ("ann", None), ("ann", (7,)), ("ann", [7]), ("Ann", 7), ("", 7),
    ("abcdefghi", 7), (None, 7), (["ann"], 7), (("ann",), 7), (("ann", 7),), (KEY, 7), ("ann", KEY),
]
NO_SETTINGS = NO_TEXTS + [
    list(SETTING), SETTING[:3], SETTING + (True,), (7, 2, 3, True), (65, 2, 3, True), (32, 3, 3, True),
    (32, 2, 0, True), (32, 2, 5, True), (32, 2, 3, 1), (32, 2, True, True), (32, True, 3, True), "setting",
]
NO_BITS = NO_TEXTS + ["2", "0 1", " ", "01a", "O", "01\x7e", "-1", ["0"], ("0",), list("01")]
NO_MANIES = [-1, 17, True, False, None, "3", "", [3], (3,), 10 ** 30 - 1]
NO_ENDS = [
    None, "bo", "", 0, ["bo"], [], [["bo"]], ("bo", "bo"), ("a", "b", "c", "d", "e"), ("a", "b", "a"),
    ("a", "b", "c", "a"), ("a", "b", "c", "c"), ("Bo",), ("",), (None,), (1,), (("bo",),), (["bo"],), ("bo", 1),
    ("bo", ["cy"]), ("a", "b", "c", "abcdefghi"),
]
NO_NUMBERS = [
    (), [], [0], [0, 2], None, 0, "0", "", (16,), (0, 16), (-1,), (-1, 0), (1, 0), (0, 0), (0, 1, 1), (0, 2, 1),
    (True,), (False,), (0, True), (False, 1), ("0",), (None,), ((0,),), ([0],), (0, "1"), ALL + (16,), ALL[::-1],
]
NO_PARTS = {
    "setting": NO_SETTINGS, "key": NO_KEYS, "bits": NO_BITS, "many": NO_MANIES, "number": NO_MANIES,
    "ends": NO_ENDS, "numbers": NO_NUMBERS, "name": NO_NAMES,
}
PARTS = {
    "can": ("setting",), "set": ("setting",), "trial": ("bits",), "page": ("key", "bits"),
    "piece": ("key", "many", "number", "bits"), "ended": ("key", "many", "ends"), "good": ("key",),
    "rough": ("key",), "bad": ("key",), "lacks": ("key", "numbers"), "busy": ("key",), "fetch": ("name",),
}


class TestIsName(unittest.TestCase):
    def test_good(self):
        for name in list(LETTERS) + ["ann", "aaaaaaaa", "abcdefgh", "zzzzzzzz", LETTERS[8:16], LETTERS[18:]]:
            self.assertIs(is_name(name), True, name)

    def test_all_lengths(self):
        for many in range(30):
            self.assertIs(is_name("k" * many), 1 <= many <= 8, many)

    def test_other_signs(self):
        for sign in odd_signs(LETTERS):
            for name in (sign, "a" + sign, sign + "a", "abc" + sign + "abc"):
                self.assertIs(is_name(name), False, name)

    def test_other_things(self):
        for thing in NO_NAMES:
            self.assertIs(is_name(thing), False, thing)


class TestWordsAtTheirBounds(unittest.TestCase):
    def good(self, *word):
        self.assertIs(is_word(word), True, word)

    def test_one_of_each_kind(self):
        self.assertEqual(len(ONES), 17)
        for word in ONES.values():
            self.good(*word)

    def test_settings(self):
        for setting in ((8, 1, 1, False), (64, 4, 4, True), (8, 4, 1, True)):
            self.good("can", setting)
            self.good("set", setting)

    def test_keys(self):
        for key in KEYS:
            for kind in OF_A_KEY:
                self.good(kind, key)
            self.good("page", key, "1")
            self.good("piece", key, 1, 0, "1")
            self.good("ended", key, 0, ())
            self.good("lacks", key, (0,))

    def test_bits(self):
        for bits in ("", "0", "1", "0" * 64, "01" * 6000):
            self.good("trial", bits)
            self.good("page", KEY, bits)
            if bits:
                self.good("piece", KEY, 1, 0, bits)

    def test_pieces(self):
        for many in range(1, 17):
            for number in range(many):
                self.good("piece", KEY, many, number, "0")

    def test_ended(self):
        for many in range(17):
            self.good("ended", KEY, many, ())
        for ends in (("a",), ("abcdefgh", "b"), ("b", "a", "c"), ("d", "c", "b", "a"), ("ann",)):
            self.good("ended", KEY, 16, ends)

    def test_lacks(self):
        for number in range(16):
            self.good("lacks", KEY, (number,))
            self.good("lacks", KEY, ALL[:number + 1])
        self.good("lacks", KEY, (0, 15))
        self.good("lacks", KEY, (3, 7, 8, 14))

    def test_fetch(self):
        for name in ("a", "z", "abcdefgh"):
            self.good("fetch", name)


class TestNoWords(unittest.TestCase):
    def none(self, thing):
        self.assertIs(is_word(thing), False, thing)

    def test_a_part_less_or_more(self):
        for word in ONES.values():
            for many in range(len(word)):
                self.none(word[:many])
                self.none(word[:many] + word[many + 1:])
            for more in (None, "", 0, KEY, SETTING, "01", (), word[-1]):
                self.none(word + (more,))
                self.none((more,) + word)

    def test_a_list_in_the_tuples_place(self):
        for word in ONES.values():
            self.none(list(word))
            self.none((word,))
            self.none([word])
            self.none(word[0])

    def test_other_first_texts(self):
        for kind, word in ONES.items():
            for first in ("", " ", "Call", "hello", kind + " ", kind[:-1], kind.upper(), kind + kind[-1], None, 0, True,
                          [kind], (kind,), (), []):
                if first not in list(ONES):
                    self.none((first,) + word[1:])

    def test_each_part_of_another_kind(self):
        for kind, parts in PARTS.items():
            for place, part in enumerate(parts, 1):
                for wrong in NO_PARTS[part]:
                    self.none(ONES[kind][:place] + (wrong,) + ONES[kind][place + 1:])

    def test_the_kinds_with_parts_are_all_but_the_bare_ones(self):
        self.assertEqual(set(PARTS) | set(BARE), set(ONES))
        for kind, word in ONES.items():
            self.assertEqual(len(word), 1 + len(PARTS.get(kind, ())))

    def test_pieces(self):
        for many in range(1, 17):
            for number in (-1, many, many + 1, 16, 99):
                self.none(("piece", KEY, many, number, "0"))
        for number in (-1, 0, 1):
            self.none(("piece", KEY, 0, number, "0"))
            self.none(("piece", KEY, 17, number, "0"))
        self.none(("piece", KEY, 17, 16, "0"))
        self.none(("piece", KEY, 3, 1, ""))
        self.none(("piece", KEY, True, 0, "0"))
        self.none(("piece", KEY, 2, True, "0"))
        self.none(("piece", KEY, 1, False, "0"))

    def test_bits_of_other_signs(self):
        for sign in odd_signs("01"):
            for bits in (sign, "0" + sign, sign + "1", "01" + sign + "10"):
                self.none(("trial", bits))
                self.none(("page", KEY, bits))
                self.none(("piece", KEY, 3, 1, bits))

    def test_words_whose_parts_stand_in_another_order(self):
        self.none(("page", "0110", KEY))
        self.none(("piece", KEY, "01", 3, 1))
        self.none(("ended", KEY, ("bo",), 3))
        self.none(("lacks", (0, 2), KEY))

    def test_any_other_thing(self):
        for thing in NO_TEXTS + ["", "call", "end", SETTING, KEY, ("ann",), (("call",),)]:
            self.none(thing)


if __name__ == "__main__":
    unittest.main()
