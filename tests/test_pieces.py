"""Promise 20, and 2 of it: bits cut into pieces, and pieces gathered."""

import itertools
import unittest

from farpage.errors import NoPiece
from farpage.pieces import Gathering, pieces_of
from tests.helper import NO_TEXTS, RefusalCase, odd_signs, patterned_bits, patterned_numbers

NO_NUMBERS = [True, False, None, "", "0", "1", "00", [], (), [0], (0,), [[0]], ((0,),), ("0",), [None] * 300]
NO_PIECES = NO_TEXTS + ["", " ", "2", "01 ", " 01", "0a1", "piece", ".", "-1", ["1"], ("1",), list("01"), tuple("01"),
                        [["1"]]]


def due_size(many):
    """The size by the words of promise 20: multiples of eight, tried from the least on."""
    for size in itertools.count(8, 8):
        if len(range(0, many, size)) <= 16:
            return size


class TestPiecesOf(unittest.TestCase):
    def check(self, bits):
        told = pieces_of(bits)
        size = due_size(len(bits))
        self.assertIs(type(told), list)
        self.assertEqual("".join(told), bits)
        self.assertEqual(told, [bits[place:place + size] for place in range(0, len(bits), size)])
        self.assertTrue(all(len(piece) == size for piece in told[:-1]))
        self.assertTrue(1 <= len(told[-1]) <= size)
        self.assertLessEqual(len(told), 16)

    def test_by_hand(self):
        self.assertEqual(pieces_of("1"), ["1"])
        self.assertEqual(pieces_of("01100110"), ["01100110"])
        self.assertEqual(pieces_of("011001101"), ["01100110", "1"])
        lengths = {
            1: [1], 7: [7], 8: [8], 9: [8, 1], 16: [8, 8], 127: [8] * 15 + [7], 128: [8] * 16, 129: [16] * 8 + [1],
            255: [16] * 15 + [15], 256: [16] * 16, 257: [24] * 10 + [17], 384: [24] * 16, 385: [32] * 12 + [1],
            12000: [752] * 15 + [720],
        }
        for many, due in lengths.items():
            self.assertEqual([len(piece) for piece in pieces_of(patterned_bits(many, many))], due, many)

    def test_all_numbers_of_bits(self):
        for many in range(1, 1200):
            self.check(patterned_bits(many, many))
        for many in (2048, 2049, 6143, 6144, 6145, 11999, 12000):
            self.check(patterned_bits(many, many))

    def test_somewhat_beyond_the_bounds(self):
        self.assertEqual(pieces_of(""), [])
        self.check("01" * 6500)

    def test_the_list_told_is_the_askers_own(self):
        bits = patterned_bits(129, 1)
        told = pieces_of(bits)
        kept = list(told)
        told[0] = "1"
        told.append("0")
        self.assertEqual(pieces_of(bits), kept)


class TestGathering(RefusalCase):
    def test_its_methods_are_its_own(self):
        for name in ("take", "lacking", "joined"):
            self.assertIn(name, vars(Gathering))

    def check_state(self, gathering, many, pieces):
        """The gathering tells what is due by the pieces that are there."""
        lacking = gathering.lacking()
        self.assertIs(type(lacking), list)
        self.assertEqual(lacking, [number for number in range(many) if number not in pieces])
        if len(pieces) == many:
            self.assertEqual(gathering.joined(), "".join(pieces[number] for number in range(many)))
        else:
            self.assertIs(gathering.joined(), None)

    def test_new_ones(self):
        for many in range(1, 17):
            self.check_state(Gathering(many), many, {})

    def test_all_orders_of_four(self):
        bits = ["1", "00", "101", "0110"]
        for order in itertools.permutations(range(4)):
            gathering, pieces = Gathering(4), {}
            for number in order:
                self.assertIs(gathering.take(number, bits[number]), None)
                pieces[number] = bits[number]
                self.check_state(gathering, 4, pieces)

    def test_many_orders(self):
        for many in range(1, 17):
            for seed in range(20):
                gathering, pieces = Gathering(many), {}
                for number in patterned_numbers(4 * many, seed):
                    bits = patterned_bits(1 + number % 30, number)
                    gathering.take(number // 30 % many, bits)
                    pieces.setdefault(number // 30 % many, bits)
                    self.check_state(gathering, many, pieces)

    def test_of_pieces_cut(self):
        for many in (1, 8, 9, 127, 128, 129, 256, 257, 12000):
            bits = patterned_bits(many, many)
            pieces = pieces_of(bits)
            gathering = Gathering(len(pieces))
            for number in reversed(range(len(pieces))):
                self.assertIs(gathering.joined(), None)
                gathering.take(number, pieces[number])
            self.assertEqual(gathering.lacking(), [])
            self.assertEqual(gathering.joined(), bits)
            self.assertEqual(gathering.joined(), bits)

    def test_the_first_stays(self):
        gathering = Gathering(2)
        gathering.take(1, "11")
        gathering.take(1, "00")
        self.check_state(gathering, 2, {1: "11"})
        gathering.take(0, "0")
        gathering.take(0, "1")
        gathering.take(1, "0")
        self.check_state(gathering, 2, {0: "0", 1: "11"})

    def gatherings(self, many):
        """Gatherings with none, one, all but one and all of the pieces."""
        for there in ([], [0], [many - 1], list(range(many - 1)), list(range(many))):
            gathering, pieces = Gathering(many), {}
            for number in there:
                pieces[number] = patterned_bits(5 + number, number)
                gathering.take(number, pieces[number])
            yield gathering, pieces

    def refused(self, gathering, many, pieces, number, bits):
        self.assert_refused(NoPiece, gathering.take, number, bits)
        self.check_state(gathering, many, pieces)

    def test_numbers_out_of_bounds(self):
        for many in range(1, 17):
            for gathering, pieces in self.gatherings(many):
                for number in (-1, -2, -many, many, many + 1, 16, 17, 10 ** 30 - 1, 1 - 10 ** 30):
                    self.refused(gathering, many, pieces, number, "1")

    def test_things_that_are_no_numbers(self):
        for many in (1, 2, 3, 16):
            for gathering, pieces in self.gatherings(many):
                for number in NO_NUMBERS:
                    self.refused(gathering, many, pieces, number, "1")
                    self.refused(gathering, many, pieces, number, "")

    def test_things_that_are_no_piece(self):
        for many in (1, 2, 16):
            for gathering, pieces in self.gatherings(many):
                for bits in NO_PIECES:
                    for number in sorted({0, many - 1}):
                        self.refused(gathering, many, pieces, number, bits)

    def test_other_signs(self):
        for gathering, pieces in self.gatherings(2):
            for sign in odd_signs("01"):
                for bits in (sign, "0" + sign, sign + "1", "01" + sign + "10", "0" * 11999 + sign):
                    self.refused(gathering, 2, pieces, 1, bits)

    def test_both_wrong(self):
        for gathering, pieces in self.gatherings(2):
            for number in (-1, 2, True, None, "0", [0]):
                for bits in ("", "2", 1, None, ["1"]):
                    self.refused(gathering, 2, pieces, number, bits)

    def test_things_handed_in_stay(self):
        number, bits = [0, [1]], ["1", ["0"]]
        self.refused(Gathering(1), 1, {}, number, "1")
        self.refused(Gathering(1), 1, {}, 0, bits)
        self.assertEqual((number, bits), ([0, [1]], ["1", ["0"]]))

    def test_two_gatherings_know_nothing_of_one_another(self):
        one, two = Gathering(2), Gathering(2)
        one.take(0, "1")
        self.check_state(one, 2, {0: "1"})
        self.check_state(two, 2, {})
        two.take(0, "0")
        two.take(1, "01")
        self.check_state(one, 2, {0: "1"})
        self.check_state(two, 2, {0: "0", 1: "01"})

    def test_the_list_of_lacking_is_the_askers_own(self):
        gathering = Gathering(3)
        told = gathering.lacking()
        told.remove(0)
        told.append(7)
        self.check_state(gathering, 3, {})
        gathering.take(1, "1")
        gathering.lacking().clear()
        self.check_state(gathering, 3, {1: "1"})


if __name__ == "__main__":
    unittest.main()
