"""Promise 16, and 3 of it: the rest of bits, sealing, and whether bits are sealed."""

import unittest

from farpage.rests import is_sealed, rest_of, sealed
from tests.helper import all_bits, patterned_bits, patterned_numbers

TURNED = "11000000000000101"
LENGTHS = (0, 1, 2, 8, 15, 16, 17, 31, 32, 33, 100, 999, 1000)


def due_rest(bits):
    """The rest by the words of promise 16, step by step."""
    left = bits + "0" * 16
    place = 0
    while len(left) - place - 1 >= 16:
        if left[place] == "1":
            seventeen = "".join("01"[one != two] for one, two in zip(left[place:place + 17], TURNED))
            left = left[:place] + seventeen + left[place + 17:]
        place += 1
    return left[-16:]


def text_bits(text):
    return "".join(format(ord(sign), "08b") for sign in text)


def with_turned(bits, places):
    signs = list(bits)
    for place in places:
        signs[place] = "10"[int(signs[place])]
    return "".join(signs)


def bits_of(many):
    """Bits of so many signs: 0s alone, 1s alone, by turns, patterned."""
    return ["0" * many, "1" * many, ("01" * many)[:many], ("10" * many)[:many], patterned_bits(many, many)]


class TestRestOf(unittest.TestCase):
    def check(self, bits, due):
        told = rest_of(bits)
        self.assertIs(type(told), str)
        self.assertEqual(told, due, bits)

    def test_by_hand(self):
        self.check("", "0" * 16)
        self.check("0", "0" * 16)
        # Of a 1 and sixteen 0s what is left, turned, is what the seventeen signs have behind their first 1.
        self.check("1", "1000000000000101")
        # The 0 becomes a 1 by what is turned for the 1 ahead, and is met as such.
        self.check("10", "1000000000001111")
        self.check("01", "1000000000000101")
        self.check("11", "0000000000001010")

    def test_a_known_rest(self):
        # The check value that is told everywhere of this rest, begun with 0s.
        self.check(text_bits("123456789"), format(0xFEE8, "016b"))

    def test_all_short_bits(self):
        for bits in all_bits(10):
            self.check(bits, due_rest(bits))

    def test_numbers_of_bits(self):
        for many in LENGTHS:
            for bits in bits_of(many):
                self.check(bits, due_rest(bits))

    def test_0s_alone(self):
        for many in LENGTHS:
            self.check("0" * many, "0" * 16)

    def test_the_seventeen_signs_have_no_rest(self):
        self.check(TURNED, "0" * 16)
        self.check(TURNED + "0" * 900, "0" * 16)
        self.check("0" * 900 + TURNED, "0" * 16)


class TestSealed(unittest.TestCase):
    def test_the_rest_stands_behind(self):
        self.assertEqual(sealed(""), "0" * 16)
        self.assertEqual(sealed("1"), "1" + "1000000000000101")
        for many in LENGTHS:
            for bits in bits_of(many):
                told = sealed(bits)
                self.assertIs(type(told), str)
                self.assertEqual(told, bits + due_rest(bits))
                self.assertIs(is_sealed(told), True)

    def test_all_short_bits(self):
        for bits in all_bits(9):
            self.assertIs(is_sealed(sealed(bits)), True)

    def test_the_rest_of_sealed_bits_is_none(self):
        for many in LENGTHS:
            for bits in bits_of(many):
                self.assertEqual(rest_of(sealed(bits)), "0" * 16)


class TestIsSealed(unittest.TestCase):
    def wrong(self, bits, places):
        self.assertIs(is_sealed(with_turned(bits, places)), False, (bits, places))

    def test_fewer_than_sixteen_bits(self):
        for bits in all_bits(8):
            self.assertIs(is_sealed(bits), False)
        for many in range(16):
            for bits in bits_of(many):
                self.assertIs(is_sealed(bits), False)

    def test_sixteen_bits(self):
        self.assertIs(is_sealed("0" * 16), True)
        for place in range(16):
            self.wrong("0" * 16, [place])
        self.assertIs(is_sealed("1" * 16), False)

    def test_just_one_of_all_rests(self):
        for bits in ("", "1", "0110", patterned_bits(20, 3)):
            right = [rest for rest in range(65536) if is_sealed(bits + format(rest, "016b"))]
            self.assertEqual(right, [int(due_rest(bits), 2)])

    def test_one_bit_turned_at_any_place(self):
        for many in (0, 1, 5, 16, 100, 1000):
            bits = sealed(patterned_bits(many, many))
            for place in range(len(bits)):
                self.wrong(bits, [place])

    def test_two_bits_turned(self):
        for many in (0, 1, 20, 60):
            bits = sealed(patterned_bits(many, many))
            for one in range(len(bits)):
                for two in range(one):
                    self.wrong(bits, [one, two])
        bits = sealed(patterned_bits(1000, 7))
        for between in range(1, 1016):
            self.wrong(bits, [0, between])
            self.wrong(bits, [1015, 1015 - between])

    def test_three_bits_turned(self):
        bits = sealed(patterned_bits(12, 2))
        for one in range(len(bits)):
            for two in range(one):
                for three in range(two):
                    self.wrong(bits, [one, two, three])

    def test_an_odd_number_of_bits_turned(self):
        for many in (20, 300, 1000):
            bits = sealed(patterned_bits(many, many))
            for odd in (1, 3, 5, 7, 9, 15):
                for seed in range(10):
                    places = sorted({number % len(bits) for number in patterned_numbers(odd, seed * 50 + odd)})
                    self.wrong(bits, places if len(places) % 2 else places[1:])
        # All of an odd number of bits.
        bits = sealed(patterned_bits(21, 4))
        self.wrong(bits, range(len(bits)))

    def test_any_turned_within_sixteen_neighbours(self):
        for many, first in ((8, 0), (8, 8), (50, 31)):
            bits = sealed(patterned_bits(many, many))
            for number in range(1, 65536):
                self.wrong(bits, [first + place for place in range(16) if number >> place & 1])
        for many in (0, 30, 1000):
            bits = sealed(patterned_bits(many, many))
            for first in range(0, len(bits) - 15, 7):
                for number in (1, 0xFFFF, 0x8001, 0x8005, 0xC002, 0xAAAA, 0x1234):
                    self.wrong(bits, [first + place for place in range(16) if number >> place & 1])

    def test_the_seventeen_turned_are_not_seen(self):
        # Just as the promise is bounded: turned by the seventeen signs, bits are sealed ones again.
        bits = sealed(patterned_bits(40, 9))
        places = [3 + place for place, sign in enumerate(TURNED) if sign == "1"]
        self.assertIs(is_sealed(with_turned(bits, places)), True)

    def test_cut_and_lengthened(self):
        bits = sealed("1" + patterned_bits(50, 6))
        self.assertIs(is_sealed(bits[:-1]), due_rest(bits[:-17]) == bits[-17:-1])
        self.assertIs(is_sealed("0" + bits), True)
        self.assertIs(is_sealed("1" + bits), False)
        self.assertIs(is_sealed(bits + "1"), False)

    def test_up_to_1016_bits(self):
        for many in (984, 999, 1000):
            bits = sealed(patterned_bits(many, many))
            self.assertIs(is_sealed(bits), True)
            self.assertIs(is_sealed("1" * len(bits)), due_rest("1" * many) == "1" * 16)
            self.assertIs(is_sealed("0" * len(bits)), True)


if __name__ == "__main__":
    unittest.main()
