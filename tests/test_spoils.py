"""Promise 15, and 2 of it: bits turned, lost and put in."""

import unittest

from farpage.spoils import spoiled
from tests.helper import patterned_bits, patterned_spoils

BITS = "0110010"


def due_once(bits, spoil):
    """The bits with one spoil done, by the words of promise 15, over a list of them."""
    signs = list(bits)
    kind, place = spoil[:2]
    if kind == "turn" and place < len(signs):
        signs[place] = {"0": "1", "1": "0"}[signs[place]]
    elif kind == "lose" and place < len(signs):
        del signs[place]
    elif kind == "put" and place <= len(signs):
        signs.insert(place, spoil[2])
    return "".join(signs)


def due(bits, spoils):
    for spoil in spoils:
        bits = due_once(bits, spoil)
    return bits


class TestSpoiled(unittest.TestCase):
    def check(self, bits, spoils, result):
        told = spoiled(bits, spoils)
        self.assertIs(type(told), str)
        self.assertEqual(told, result, (bits, spoils))

    def test_no_spoils(self):
        for bits in ("", "0", "1", BITS, "01" * 6000):
            self.check(bits, [], bits)

    def test_turn(self):
        self.check(BITS, [("turn", 0)], "1110010")
        self.check(BITS, [("turn", 3)], "0111010")
        self.check(BITS, [("turn", 5)], "0110000")
        self.check(BITS, [("turn", 6)], "0110011")

    def test_lose(self):
        self.check(BITS, [("lose", 0)], "110010")
        self.check(BITS, [("lose", 3)], "011010")
        self.check(BITS, [("lose", 5)], "011000")
        self.check(BITS, [("lose", 6)], "011001")
        self.check("1", [("lose", 0)], "")

    def test_put(self):
        self.check(BITS, [("put", 0, "0")], "00110010")
        self.check(BITS, [("put", 0, "1")], "10110010")
        self.check(BITS, [("put", 3, "0")], "01100010")
        self.check(BITS, [("put", 3, "1")], "01110010")
        self.check(BITS, [("put", 6, "1")], "01100110")
        self.check(BITS, [("put", 6, "0")], "01100100")

    def test_at_the_end_only_put_changes(self):
        self.check(BITS, [("turn", 7)], BITS)
        self.check(BITS, [("lose", 7)], BITS)
        self.check(BITS, [("put", 7, "0")], BITS + "0")
        self.check(BITS, [("put", 7, "1")], BITS + "1")
        self.check("", [("turn", 0)], "")
        self.check("", [("lose", 0)], "")
        self.check("", [("put", 0, "1")], "1")
        self.check("", [("put", 0, "0")], "0")

    def test_beyond_the_end_nothing_is_changed(self):
        for place in (8, 9, 14, 100, 11999, 12000):
            for spoil in (("turn", place), ("lose", place), ("put", place, "0"), ("put", place, "1")):
                self.check(BITS, [spoil], BITS)
        self.check("", [("put", 1, "1")], "")

    def test_each_kind_at_each_place(self):
        for bits in (BITS, "0", "1", "0000", "1111", patterned_bits(40, 1)):
            for place in range(len(bits) + 3):
                for spoil in (("turn", place), ("lose", place), ("put", place, "0"), ("put", place, "1")):
                    self.check(bits, [spoil], due(bits, [spoil]))

    def test_each_is_done_to_what_is_left_by_those_ahead(self):
        self.check(BITS, [("lose", 0), ("lose", 0)], "10010")
        self.check(BITS, [("lose", 6), ("lose", 6)], "011001")
        self.check(BITS, [("lose", 6), ("put", 6, "1")], "0110011")
        self.check(BITS, [("lose", 6), ("put", 7, "1")], "011001")
        self.check(BITS, [("put", 7, "1"), ("put", 8, "0"), ("turn", 8)], BITS + "11")
        self.check(BITS, [("put", 8, "0"), ("put", 7, "1")], BITS + "1")
        self.check(BITS, [("turn", 2), ("turn", 2)], BITS)
        self.check(BITS, [("put", 2, "0"), ("turn", 2), ("lose", 2)], BITS)
        self.check("", [("put", 0, "0"), ("put", 0, "1"), ("put", 1, "1")], "110")
        self.check("01", [("lose", 0), ("lose", 0), ("lose", 0), ("turn", 0)], "")

    def test_many_spoils(self):
        for seed in range(60):
            bits = patterned_bits(seed, seed)
            for many in (2, 3, 40):
                spoils = patterned_spoils(many, seed + 3, seed + many)
                self.check(bits, spoils, due(bits, spoils))

    def test_long_bits(self):
        bits = patterned_bits(12000, 3)
        for place in (0, 5999, 11998, 11999, 12000):
            for spoil in (("turn", place), ("lose", place), ("put", place, "0"), ("put", place, "1")):
                self.check(bits, [spoil], due(bits, [spoil]))
        spoils = patterned_spoils(40, 12001, 5)
        self.check(bits, spoils, due(bits, spoils))

    def test_the_list_handed_in_stays(self):
        for many in (0, 1, 2, 40):
            spoils = patterned_spoils(many, 10, many)
            before = list(spoils)
            told = spoiled(BITS, spoils)
            self.assertEqual(spoils, before)
            spoils.append(("turn", 0))
            self.assertEqual(told, due(BITS, before))
            self.assertEqual(spoiled(BITS, before), told)


if __name__ == "__main__":
    unittest.main()
