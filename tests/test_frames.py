"""Promises 17, 18 and 19, and 2 of them: stuffing, frames written and read, and frames found in any bits."""

import unittest

from farpage.errors import NoFrame
from farpage.frames import frame_bits, frames_in, read_frame, stuffed, unstuffed
from farpage.rests import sealed
from tests.helper import NO_TEXTS, RefusalCase, all_bits, odd_signs, patterned_bits, patterned_numbers

FLAG = "01111110"
NO_BITS = NO_TEXTS + [["01"], ("01",), list("0110"), tuple("0110"), [0, 1], [["01"]]]
NUMBERS = (0, 1, 2, 31, 63, 127, 128, 248, 254, 255)


def due_stuffed(bits):
    """The bits stuffed, by the words of promise 17, 1 by 1."""
    out, ones = [], 0
    for bit in bits:
        out.append(bit)
        ones = ones + 1 if bit == "1" else 0
        if ones == 5:
            out.append("0")
            ones = 0
    return "".join(out)


def due_frame(end, number, bits):
    return FLAG + due_stuffed(sealed(format(end, "08b") + format(number, "08b") + bits)) + FLAG


def due_read(bits):
    """What is due of bits: told bit by bit, and taken where it is written so; else None."""
    if len(bits) < 16 or bits[:8] != FLAG or bits[-8:] != FLAG:
        return None
    told, ones = [], 0
    for bit in bits[8:-8]:
        if ones < 5:
            told.append(bit)
            ones = ones + 1 if bit == "1" else 0
        else:
            ones = 0
    inner = "".join(told)
    if not 32 <= len(inner) <= 932:
        return None
    found = int(inner[:8], 2), int(inner[8:16], 2), inner[16:-16]
    return found if due_frame(*found) == bits else None


def due_frames(bits):
    """The frames by the words of promise 19."""
    found, at = [], 0
    while at + 8 <= len(bits):
        if bits[at:at + 8] == FLAG:
            found.append(at)
            at += 8
        else:
            at += 1
    told = [due_read(bits[one:two + 8]) for one, two in zip(found, found[1:])]
    return [one for one in told if one is not None]


def ones_heavy(many, seed):
    """Bits with many 1s together, so that there is much to stuff."""
    return "".join("0" if number % 8 == 0 else "1" for number in patterned_numbers(many, seed))


class TestStuffed(unittest.TestCase):
    def check(self, bits, due):
        told = stuffed(bits)
        self.assertIs(type(told), str)
        self.assertEqual(told, due, bits)
        self.assertEqual(unstuffed(told), bits)

    def test_numbers_of_1s(self):
        due = {0: "", 1: "1", 4: "1111", 5: "111110", 6: "1111101", 9: "1111101111", 10: "111110111110",
               11: "1111101111101", 15: "111110" * 3}
        for many, told in due.items():
            self.check("1" * many, told)
            self.check("1" * many + "0", told + "0")
            self.check("0" + "1" * many, "0" + told)
            self.check("0" + "1" * many + "0", "0" + told + "0")
            self.check("110" + "1" * many + "011", "110" + told + "011")

    def test_the_count_is_begun_anew(self):
        self.check("1111011111", "1111" + "0" + "111110")
        self.check("11111" + "0" + "11111", "111110" + "0" + "111110")
        self.check("11111" + "1111", "111110" + "1111")
        self.check("1" * 12000, "111110" * 2400)

    def test_bits_without_five_1s(self):
        for bits in ("", "0", "1", "0" * 40, "1111" + "0" + "1111", "01" * 30):
            self.check(bits, bits)

    def test_all_short_bits(self):
        for bits in all_bits(13):
            self.check(bits, due_stuffed(bits))

    def test_patterned_bits(self):
        for seed in range(100):
            for bits in (patterned_bits(200, seed), ones_heavy(200, seed)):
                self.check(bits, due_stuffed(bits))
                self.assertNotIn("111111", stuffed(bits))


class TestUnstuffed(RefusalCase):
    def refused(self, thing):
        self.assert_refused(NoFrame, unstuffed, thing)

    def test_by_hand(self):
        self.assertEqual(unstuffed(""), "")
        self.assertEqual(unstuffed("0"), "0")
        self.assertEqual(unstuffed("111110"), "11111")
        self.assertEqual(unstuffed("1111100"), "111110")
        self.assertEqual(unstuffed("1111101"), "111111")
        self.assertEqual(unstuffed("111110111110"), "1111111111")

    def test_all_short_bits(self):
        # Just those are led back that are the stuffing of some bits.
        stuffings = {due_stuffed(bits): bits for bits in all_bits(12)}
        for bits in all_bits(12):
            if bits in stuffings:
                self.assertEqual(unstuffed(bits), stuffings[bits])
            else:
                self.refused(bits)

    def test_six_1s_together(self):
        for ahead in ("", "0", "1", "111110", "0101"):
            for behind in ("", "0", "1", "00", "111110"):
                self.refused(ahead + "111111" + behind)
        self.refused("1" * 12000)
        self.refused(FLAG)

    def test_a_fifth_1_without_its_0_at_the_end(self):
        for ahead in ("", "0", "111110", "1111100", "0101" * 20):
            self.refused(ahead + "11111")

    def test_other_signs(self):
        for sign in odd_signs("01"):
            for bits in ("", "0110", "111110", "0111110111"):
                for place in range(len(bits) + 1):
                    self.refused(bits[:place] + sign + bits[place:])

    def test_things_that_are_no_texts(self):
        for thing in NO_BITS:
            self.refused(thing)

    def test_things_handed_in_stay(self):
        thing = ["01", ["01"], ("01",)]
        self.refused(thing)
        self.assertEqual(thing, ["01", ["01"], ("01",)])


class TestFrameBits(unittest.TestCase):
    def test_by_hand(self):
        self.assertEqual(frame_bits(0, 0, ""), FLAG + "0" * 32 + FLAG)
        self.assertEqual(frame_bits(0, 0, "0" * 900), FLAG + "0" * 932 + FLAG)
        # 255 and 255 are sixteen 1s: three 0s are put in.
        self.assertTrue(frame_bits(255, 255, "0").startswith(FLAG + "1111101111101111101" + "0"))
        self.assertTrue(frame_bits(1, 2, "").startswith(FLAG + "00000001" + "00000010"))

    def test_written_and_read(self):
        for end in NUMBERS:
            for number in NUMBERS:
                for bits in ("", "0", "1", "11111", "111111", patterned_bits(40, end + number)):
                    told = frame_bits(end, number, bits)
                    self.assertIs(type(told), str)
                    self.assertEqual(told, due_frame(end, number, bits))
                    read = read_frame(told)
                    self.assertIs(type(read), tuple)
                    self.assertEqual(read, (end, number, bits))
                    self.assertTrue(all(type(one) is int for one in read[:2]))

    def test_all_ends_and_numbers(self):
        for one in range(256):
            self.assertEqual(frame_bits(one, 255 - one, "101"), due_frame(one, 255 - one, "101"))
            self.assertEqual(read_frame(due_frame(one, 255 - one, "101")), (one, 255 - one, "101"))

    def test_numbers_of_bits(self):
        for many in (0, 1, 2, 15, 16, 17, 100, 899, 900):
            for bits in ("0" * many, "1" * many, patterned_bits(many, many), ones_heavy(many, many)):
                told = frame_bits(254, 1, bits)
                self.assertEqual(told, due_frame(254, 1, bits))
                self.assertEqual(read_frame(told), (254, 1, bits))

    def test_all_short_bits(self):
        for bits in all_bits(9):
            self.assertEqual(read_frame(frame_bits(7, 200, bits)), (7, 200, bits))


FRAMES = [
    due_frame(0, 0, ""), due_frame(255, 255, ""), due_frame(1, 254, "1"), due_frame(254, 1, "0"),
    due_frame(31, 248, "1" * 30), due_frame(3, 4, patterned_bits(60, 8)), due_frame(200, 9, ones_heavy(60, 2)),
]


# Frames whose inner bits have a 1 at each edge.
FIRM_FRAMES = [
    due_frame(129, 3, "1101"), due_frame(254, 77, "1"), due_frame(200, 9, patterned_bits(60, 8)),
]


class TestReadFrame(RefusalCase):
    def refused(self, thing):
        self.assert_refused(NoFrame, read_frame, thing)

    def check_due(self, bits):
        due = due_read(bits)
        if due is None:
            self.refused(bits)
        else:
            self.assertEqual(read_frame(bits), due)

    def test_one_bit_turned_at_any_place(self):
        for frame in FRAMES + FIRM_FRAMES:
            for place, bit in enumerate(frame):
                self.refused(frame[:place] + "10"[int(bit)] + frame[place + 1:])

    def test_one_bit_lost_at_any_place(self):
        # Where a 0 is lost at the edge of the inner bits, these are sealed still: what comes is just another frame.
        for frame in FRAMES:
            for place in range(len(frame)):
                self.check_due(frame[:place] + frame[place + 1:])
        for frame in FIRM_FRAMES:
            for place in range(len(frame)):
                self.refused(frame[:place] + frame[place + 1:])

    def test_one_bit_put_in_at_any_place(self):
        # So it is, too, where a 0 is put in there.
        for frame in FRAMES:
            for place in range(len(frame) + 1):
                for bit in "01":
                    self.check_due(frame[:place] + bit + frame[place:])
        for frame in FIRM_FRAMES:
            for place in range(len(frame) + 1):
                self.refused(frame[:place] + "1" + frame[place:])
                if place not in (7, 8, len(frame) - 8, len(frame) - 7):
                    self.refused(frame[:place] + "0" + frame[place:])

    def test_one_bit_put_in_where_there_are_900(self):
        frame = due_frame(129, 3, patterned_bits(900, 5))
        for place in range(len(frame) + 1):
            for bit in "01":
                self.refused(frame[:place] + bit + frame[place:])

    def test_a_0_more_or_less_at_the_edges_of_the_inner_bits(self):
        frame = due_frame(128, 1, "1")
        self.assertEqual(read_frame(FLAG + "0" + frame[8:]), (64, 0, "11"))
        self.assertEqual(read_frame(FLAG + due_frame(64, 0, "11")[9:]), (128, 1, "1"))
        longer = read_frame(frame[:-8] + "0" + FLAG)
        self.assertEqual(longer[:2] + (len(longer[2]),), (128, 1, 2))
        self.assertEqual(read_frame(due_frame(*longer)[:-9] + FLAG), (128, 1, "1"))

    def test_the_frame_of_0s_alone(self):
        self.refused(FLAG + "0" * 31 + FLAG)
        self.assertEqual(read_frame(FLAG + "0" * 33 + FLAG), (0, 0, "0"))
        frame = FRAMES[0]
        for place in range(len(frame) + 1):
            self.check_due(frame[:place] + frame[place + 1:])
            for bit in "01":
                self.check_due(frame[:place] + bit + frame[place:])

    def test_cut_ahead_and_behind(self):
        for frame in FRAMES:
            for place in range(1, len(frame) + 1):
                self.refused(frame[place:])
                self.refused(frame[:-place])

    def test_bits_ahead_and_behind(self):
        for frame in FRAMES:
            for more in ("0", "1", "00000000", "11111111", FLAG, FLAG[1:], FLAG[:-1], frame):
                self.refused(more + frame)
                self.refused(frame + more)

    def test_two_ends_that_share_signs(self):
        self.refused(FLAG)
        self.refused(FLAG + FLAG[1:])
        self.refused("011111101111110")
        for frame in FRAMES:
            self.check_due(frame[:-8] + FLAG[1:])
            self.check_due(FLAG[:-1] + frame[8:])

    def test_fewer_than_thirty_two_inner_bits(self):
        self.refused(FLAG + FLAG)
        for many in range(16):
            for bits in ("0" * many, "1" * many, patterned_bits(many, many)):
                self.refused(FLAG + due_stuffed(sealed(bits)) + FLAG)
        self.assertEqual(read_frame(FLAG + due_stuffed(sealed("0" * 15 + "1")) + FLAG), (0, 1, ""))

    def test_more_than_900_bits(self):
        for many in (901, 902, 984, 2000):
            for bits in ("0" * many, "1" * many, patterned_bits(many, many)):
                self.refused(due_frame(5, 6, bits))

    def test_a_wrong_rest(self):
        inner = "00000001" + "00000010" + "101"
        for number in range(0, 65536, 11):
            self.check_due(FLAG + due_stuffed(inner + format(number, "016b")) + FLAG)

    def test_inner_bits_that_are_no_stuffed_ones(self):
        for end, number, bits in ((255, 255, ""), (0, 31, "1" * 20)):
            inner = sealed(format(end, "08b") + format(number, "08b") + bits)
            self.refused(FLAG + inner + FLAG)

    def test_patterned_bits(self):
        for seed in range(200):
            bits = patterned_bits(60, seed)
            self.check_due(bits)
            self.check_due(FLAG + bits + FLAG)
            self.check_due(FLAG + due_stuffed(bits) + FLAG)
            self.check_due(FLAG + due_stuffed(sealed(bits)) + FLAG)

    def test_other_signs(self):
        for sign in odd_signs("01"):
            for frame in (FRAMES[0], FRAMES[2]):
                for place in range(0, len(frame) + 1):
                    self.refused(frame[:place] + sign + frame[place:])
                    self.refused(frame[:place] + sign + frame[place + 1:])

    def test_other_texts(self):
        for text in ("", " ", "0", "1", "frame", "0" * 12000, "1" * 12000):
            self.refused(text)

    def test_things_that_are_no_texts(self):
        for thing in NO_BITS + [[FRAMES[0]], (FRAMES[0],), list(FRAMES[0]), tuple(FRAMES[0]), (0, 0, "")]:
            self.refused(thing)


class TestFramesIn(unittest.TestCase):
    ONE, TWO, THREE = (1, 2, "1011"), (255, 0, ""), (7, 255, "1" * 20)

    def check(self, bits, due):
        told = frames_in(bits)
        self.assertIs(type(told), list)
        self.assertEqual(told, due, bits)
        self.assertEqual(told, due_frames(bits))

    def test_no_frame(self):
        for bits in ("", "0", "1", "0" * 12000, "1" * 12000, FLAG, FLAG * 2, FLAG * 100, FLAG + "0" * 31 + FLAG,
                     FLAG + "1" * 40 + FLAG, patterned_bits(12000, 1)):
            self.check(bits, [])

    def test_one(self):
        for one in (self.ONE, self.TWO, self.THREE):
            self.check(due_frame(*one), [one])

    def test_several_with_their_own_ends(self):
        one, two, three = due_frame(*self.ONE), due_frame(*self.TWO), due_frame(*self.THREE)
        self.check(one + two, [self.ONE, self.TWO])
        self.check(two + one + three, [self.TWO, self.ONE, self.THREE])
        self.check(one * 4, [self.ONE] * 4)

    def test_one_end_between_two(self):
        one, two, three = due_frame(*self.ONE), due_frame(*self.TWO), due_frame(*self.THREE)
        self.check(one + two[8:], [self.ONE, self.TWO])
        self.check(one + two[8:] + three[8:], [self.ONE, self.TWO, self.THREE])
        self.check(one + two[8:] + three, [self.ONE, self.TWO, self.THREE])

    def test_junk_ahead_between_and_behind(self):
        one, two = due_frame(*self.ONE), due_frame(*self.TWO)
        # Junk that ends or begins with 0s and few 1s makes no end with what stands beside it.
        for junk in ("0", "00", "0" * 100, "010", "0" + patterned_bits(50, 3) + "0", FLAG, "0" + FLAG + "0"):
            for bits in (junk + one, one + junk, junk + one + junk, one + junk + two, junk + one + junk + two + junk):
                due = due_frames(bits)
                self.assertEqual(frames_in(bits), due, bits)
        self.check("0100" + one + "0100" + two + "0100", [self.ONE, self.TWO])
        self.check("1" + one + "11" + two + "111", [self.ONE, self.TWO])

    def test_junk_with_an_end_in_it(self):
        one, two = due_frame(*self.ONE), due_frame(*self.TWO)
        for junk in (FLAG, "0" + FLAG, FLAG + "0", "101" + FLAG + "101", FLAG + "1101" + FLAG):
            self.check(junk + one, [self.ONE])
            self.check(one + junk, [self.ONE])
            self.check(one + junk + two, [self.ONE, self.TWO])

    def test_ends_that_would_overlap(self):
        one, two = due_frame(*self.ONE), due_frame(*self.TWO)
        # The last 0 of one end can't begin the next one.
        self.check(FLAG[:-1] + one, [])
        self.check(one + FLAG[1:], [self.ONE])
        self.check(one + FLAG[1:] + two, [self.ONE, self.TWO])
        self.check(FLAG[:-1] + one + two, [self.TWO])
        self.check(FLAG[:-1] * 2 + one, due_frames(FLAG[:-1] * 2 + one))
        self.check(FLAG[:-1] * 5 + FLAG + one[8:], due_frames(FLAG[:-1] * 5 + FLAG + one[8:]))
        self.check(one[:-1] + two, [self.ONE])

    def test_a_spoilt_frame_between_two_good_ones(self):
        one, two, three = due_frame(*self.ONE), due_frame(*self.TWO), due_frame(*self.THREE)
        for place in range(8, len(three) - 8):
            for spoilt in (three[:place] + "10"[int(three[place])] + three[place + 1:],
                           three[:place] + three[place + 1:]):
                bits = one + spoilt + two
                self.check(bits, due_frames(bits))
                if due_read(spoilt) is None and FLAG not in spoilt[1:-1]:
                    self.check(bits, [self.ONE, self.TWO])

    def test_spoilt_at_any_place(self):
        bits = "".join(due_frame(*one) for one in (self.ONE, self.TWO, self.THREE))
        for place in range(len(bits)):
            for spoilt in (bits[:place] + "10"[int(bits[place])] + bits[place + 1:], bits[:place] + bits[place + 1:],
                           bits[:place] + "0" + bits[place:], bits[:place] + "1" + bits[place:]):
                self.check(spoilt, due_frames(spoilt))
                self.assertGreaterEqual(len(frames_in(spoilt)), 1)

    def test_a_frame_of_too_many_bits(self):
        one = due_frame(*self.ONE)
        self.check(one + due_frame(5, 6, "0" * 901) + one, [self.ONE, self.ONE])
        self.check(one + due_frame(5, 6, "0" * 900) + one, [self.ONE, (5, 6, "0" * 900), self.ONE])

    def test_all_bits_of_many_frames(self):
        frames = [(number, 255 - number, patterned_bits(number, number)) for number in range(100)]
        bits = "".join(due_frame(*one) for one in frames)
        self.assertLess(len(bits), 12000)
        self.check(bits, frames)

    def test_the_list_told_is_the_askers_own(self):
        bits = due_frame(*self.ONE) + due_frame(*self.TWO)
        told = frames_in(bits)
        told[0] = None
        told.append(5)
        self.assertEqual(frames_in(bits), [self.ONE, self.TWO])


if __name__ == "__main__":
    unittest.main()
