"""Promises 8 and 9, and 2 and 3 of them: the runs of a row, its plain telling, and plain tellings read."""

import unittest

from farpage.errors import NoTelling
from farpage.pages import is_row
from farpage.runs import plain_bits, read_plain, runs_of
from farpage.words import run_bits
from tests.helper import (
    DARK_WORDS, LIGHT_WORDS, NO_TEXTS, RefusalCase, all_bits, all_rows, due_plain, due_run, due_runs, odd_signs,
    other_colour, patterned_bits, patterned_row,
)

BREADTHS = (8, 9, 15, 16, 17, 31, 32, 33, 47, 48, 49, 63, 64)
NO_BITS = NO_TEXTS + [["1111"], ("1111",), list("01111"), tuple("01111"), [1, 1, 1, 1], 1111, [["01111"]]]


def rows_of(breadth):
    """Rows of one colour, with one change at each place, of cells each unlike the one ahead, and patterned ones."""
    rows = ["." * breadth, "#" * breadth, (".#" * breadth)[:breadth], ("#." * breadth)[:breadth]]
    for place in range(1, breadth):
        rows.append("." * place + "#" * (breadth - place))
        rows.append("#" * place + "." * (breadth - place))
    rows.extend(patterned_row(breadth, seed) for seed in range(12))
    rows.extend("#" + patterned_row(breadth - 1, seed) for seed in range(12))
    return rows


SOME_ROWS = [row for breadth in (8, 13, 64) for row in rows_of(breadth)]


def due_read(breadth, bits):
    """What is due of bits, by trying every row run by run: (row, many), or None where it is to be refused."""
    found = []
    open_rows = [("", 0, ".")]
    while open_rows:
        row, many, cell = open_rows.pop()
        if len(row) == breadth:
            found.append((row, many))
            continue
        for run in range(0 if many == 0 else 1, breadth - len(row) + 1):
            told = due_run(cell, run)
            if bits[many:many + len(told)] == told:
                open_rows.append((row + cell * run, many + len(told), other_colour(cell)))
    assert len(found) <= 1, found
    return found[0] if found else None


class TestRunsOf(unittest.TestCase):
    def test_by_hand(self):
        self.assertEqual(runs_of("........"), [8])
        self.assertEqual(runs_of("########"), [0, 8])
        self.assertEqual(runs_of("..##...#"), [2, 2, 3, 1])
        self.assertEqual(runs_of("##..###."), [0, 2, 2, 3, 1])
        self.assertEqual(runs_of(".#.#.#.#"), [1] * 8)
        self.assertEqual(runs_of("#.#.#.#."), [0] + [1] * 8)
        self.assertEqual(runs_of(".#" * 32), [1] * 64)
        self.assertEqual(runs_of("#." * 32), [0] + [1] * 64)
        self.assertEqual(runs_of("." * 64), [64])
        self.assertEqual(runs_of("#" * 64), [0, 64])
        self.assertEqual(runs_of("." * 63 + "#"), [63, 1])
        self.assertEqual(runs_of("#" + "." * 63), [0, 1, 63])

    def check(self, row):
        told = runs_of(row)
        self.assertIs(type(told), list)
        self.assertEqual(told, due_runs(row), row)
        self.assertEqual("".join(".#"[number % 2] * run for number, run in enumerate(told)), row)
        self.assertNotIn(0, told[1:])
        self.assertEqual(told[0] == 0, row[0] == "#")

    def test_all_rows_of_eight_cells(self):
        for row in all_rows(8):
            self.check(row)

    def test_other_breadths(self):
        for breadth in BREADTHS:
            for row in rows_of(breadth):
                self.check(row)

    def test_the_list_told_is_the_askers_own(self):
        for row in ("..##...#", "########", "." * 64):
            told = runs_of(row)
            kept = list(told)
            told[0] = 99
            told.append(5)
            self.assertEqual(runs_of(row), kept)
            self.assertIsNot(runs_of(row), runs_of(row))


class TestPlainBits(unittest.TestCase):
    def test_by_hand(self):
        self.assertEqual(plain_bits("........"), "01111")
        self.assertEqual(plain_bits("########"), "011001" + "01001")
        self.assertEqual(plain_bits("..##...#"), "1110" + "101" + "1101" + "11")
        self.assertEqual(plain_bits(".....#####"), "1011" + "0110")
        self.assertEqual(plain_bits("." * 20), "1010" + "1100")
        self.assertEqual(plain_bits("." * 64), "1001" + "011001")
        self.assertEqual(plain_bits("#" * 64), "011001" + "0010100" + "0011011")

    def check(self, row):
        told = plain_bits(row)
        self.assertIs(type(told), str)
        self.assertEqual(told, due_plain(row), row)
        due = "".join(run_bits(".#"[number % 2], run) for number, run in enumerate(runs_of(row)))
        self.assertEqual(told, due, row)
        self.assertNotIn("0" * 10, told, row)

    def test_all_rows_of_eight_cells(self):
        for row in all_rows(8):
            self.check(row)

    def test_other_breadths(self):
        for breadth in BREADTHS:
            for row in rows_of(breadth):
                self.check(row)

    def test_no_ten_0s_come_by_two_words_together(self):
        # Each word has a 1, so 0s that stand together are of two words at most.
        for word in LIGHT_WORDS + DARK_WORDS:
            self.assertIn("1", word)
            for behind in LIGHT_WORDS + DARK_WORDS:
                self.assertNotIn("0" * 10, word + behind)


class TestReadPlain(RefusalCase):
    def check_read(self, row, behind):
        telling = due_plain(row)
        read = read_plain(len(row), telling + behind)
        self.assertIs(type(read), tuple)
        self.assertEqual(read, (row, len(telling)), (row, behind))

    def refused(self, breadth, thing):
        self.assert_refused(NoTelling, read_plain, breadth, thing)

    def test_by_hand(self):
        self.assertEqual(read_plain(8, "01111"), ("........", 5))
        self.assertEqual(read_plain(8, "01100101001"), ("########", 11))
        self.assertEqual(read_plain(20, "10101100111"), ("." * 20, 8))

    def test_all_rows_of_eight_cells_with_any_bits_behind(self):
        behinds = ["", "0", "1", "0" * 20, "1" * 20, "0000000000011"] + [patterned_bits(30, seed) for seed in range(4)]
        for row in all_rows(8):
            for behind in behinds:
                self.check_read(row, behind)

    def test_all_short_bits_behind(self):
        for row in ("........", "########", ".#.#.#.#", "#......#", "...##..."):
            for behind in all_bits(6):
                self.check_read(row, behind)

    def test_other_breadths(self):
        for breadth in BREADTHS:
            for number, row in enumerate(rows_of(breadth)):
                for behind in ("", "0", "1", patterned_bits(20, number), "0" * 11940):
                    self.check_read(row, behind)

    def test_another_rows_telling_behind(self):
        rows = [row for breadth in (8, 9) for row in rows_of(breadth)]
        for row in rows:
            for other in rows:
                self.check_read(row, due_plain(other))

    def test_what_was_told_is_read_back(self):
        for row in SOME_ROWS:
            read, many = read_plain(len(row), plain_bits(row))
            self.assertEqual((read, many), (row, len(plain_bits(row))))
            self.assertIs(is_row(read), True)

    def check_due(self, breadth, bits):
        due = due_read(breadth, bits)
        if due is None:
            self.refused(breadth, bits)
        else:
            self.assertEqual(read_plain(breadth, bits), due, (breadth, bits))

    def test_by_another_breadth(self):
        for row in SOME_ROWS:
            for breadth in (8, 9, 12, 13, 14, 40, 63, 64):
                self.check_due(breadth, due_plain(row))
                self.check_due(breadth, due_plain(row) + due_plain(row[::-1]))

    def test_all_short_bits(self):
        for bits in all_bits(11):
            self.check_due(8, bits)

    def test_patterned_bits(self):
        for seed in range(200):
            for breadth in (8, 9, 17, 64):
                self.check_due(breadth, patterned_bits(60 + 3 * breadth, seed))

    def test_one_bit_turned_at_any_place(self):
        for row in SOME_ROWS[::3]:
            telling = due_plain(row)
            for place, bit in enumerate(telling):
                self.check_due(len(row), telling[:place] + "10"[int(bit)] + telling[place + 1:] + "0" * 11)

    def test_cut_at_any_place(self):
        for row in SOME_ROWS:
            telling = due_plain(row)
            for place in range(len(telling)):
                self.refused(len(row), telling[:place])

    def test_a_run_of_0_elsewhere_than_first(self):
        light, dark = LIGHT_WORDS, DARK_WORDS
        self.refused(8, light[4] + dark[0] + light[4])
        self.refused(8, light[0] + dark[0] + light[8])
        self.refused(8, light[0] + dark[4] + light[0] + dark[4])
        self.refused(8, light[0] + dark[0] + light[0] + dark[8])
        self.refused(8, light[8 - 1] + dark[0] + light[1])
        self.refused(16, light[15] + dark[0] + light[1])
        self.refused(64, light[19] + light[0][:-1])
        # Behind the last run nothing more is of the telling, be it a run of 0.
        self.assertEqual(read_plain(8, light[8] + dark[0]), ("........", 5))

    def test_runs_that_go_beyond_the_breadth(self):
        light, dark = LIGHT_WORDS, DARK_WORDS
        self.refused(8, light[9])
        self.refused(8, light[15])
        self.refused(8, light[16] + light[0])
        self.refused(8, light[7] + dark[2])
        self.refused(8, light[0] + dark[9])
        self.refused(8, light[1] + dark[1] + light[7])
        self.refused(63, light[19] + light[0])
        self.refused(63, due_plain("#" * 64))
        self.refused(64, light[19] + light[1])
        self.refused(64, light[19] + light[15])
        self.refused(64, light[0] + dark[19] + dark[1])
        self.refused(64, light[1] + dark[18] + dark[0] + light[16] + light[0])

    def test_runs_told_by_other_makers(self):
        light, dark = LIGHT_WORDS, DARK_WORDS
        self.refused(32, light[16] + light[16] + light[0])
        self.refused(40, light[16] + light[16] + light[8])
        self.refused(48, light[17] + light[16] + light[0])
        self.refused(48, light[16] + light[17] + light[0])
        self.refused(64, light[18] + light[16] + light[0])
        self.refused(64, light[17] + light[17] + light[0])
        self.refused(64, light[0] + dark[18] + dark[16] + dark[0])
        self.refused(64, light[0] + dark[17] + dark[17] + dark[0])
        # A maker alone, or behind an end of its colour.
        self.refused(16, light[16])
        self.refused(20, light[4] + light[16])

    def test_other_signs_at_any_place(self):
        for sign in odd_signs("01"):
            for telling in (due_plain("..##...#"), due_plain("#" * 64) + "0000"):
                for place in range(len(telling) + 1):
                    for breadth in (8, 64):
                        self.refused(breadth, telling[:place] + sign + telling[place:])
                        self.refused(breadth, telling[:place] + sign + telling[place + 1:])
        self.refused(8, "01111" + "0" * 11990 + "2")

    def test_other_texts(self):
        for text in ("", " ", "0", "1", "0" * 12000, "........", "..##...#", "page"):
            for breadth in (8, 33, 64):
                self.refused(breadth, text)

    def test_things_that_are_no_texts(self):
        for thing in NO_BITS:
            for breadth in (8, 64):
                self.refused(breadth, thing)

    def test_things_handed_in_stay(self):
        thing = ["01111", [0, 1], ("01111",)]
        self.refused(8, thing)
        self.assertEqual(thing, ["01111", [0, 1], ("01111",)])


if __name__ == "__main__":
    unittest.main()
