"""Promises 10 and 11, and 2 and 3 of them: steps by the row above, the telling by them, and such tellings read."""

import unittest

from farpage.above import above_bits, above_steps, read_above
from farpage.errors import NoTelling
from farpage.pages import is_row
from tests.helper import (
    NO_TEXTS, RUN_WORDS, STEP_WORDS, RefusalCase, all_bits, all_rows, due_above, due_run, due_step_bits, due_steps,
    odd_signs, other_colour, patterned_bits, patterned_row,
)

NO_BITS = NO_TEXTS + [["1"], ("1",), list("1111"), tuple("1111"), [1, 1], [["1"]]]
BREADTHS = (8, 9, 16, 17, 40, 63, 64)


def with_cell(row, place, cell):
    return row[:place] + cell + row[place + 1:]


def slid(row, many):
    """The row with its cells slid to the right by so many places, below 0 to the left."""
    filled = row[0] * 4 + row + row[-1] * 4
    return filled[4 - many:][:len(row)]


def pairs_of(breadth):
    """Rows above and rows: alike, unlike in one cell, slid, of one colour, beginning dark, patterned."""
    plain = ["." * breadth, "#" * breadth, (".#" * breadth)[:breadth], ("#." * breadth)[:breadth]]
    wide = ("...####....." * breadth)[:breadth]
    rows = plain + [wide, wide[::-1]] + [patterned_row(breadth, seed) for seed in range(5)]
    rows += ["#" + patterned_row(breadth - 1, seed) for seed in range(3)]
    pairs = [(above, row) for above in rows for row in rows]
    for row in rows:
        for place in sorted({0, 1, 3, 4, breadth // 2, breadth - 4, breadth - 2, breadth - 1}):
            pairs.append((row, with_cell(row, place, other_colour(row[place]))))
        for many in (-4, -3, -2, -1, 1, 2, 3, 4):
            pairs.append((row, slid(row, many)))
    return pairs


ALL_PAIRS = [pair for breadth in BREADTHS for pair in pairs_of(breadth)]


def due_row(above, steps):
    """The row to which steps lead, from them and the row above alone."""
    many = len(above)
    row, place, colour = "", -1, "."
    for step in steps:
        change = place + 1
        while change < many and not (above[change] != colour and ("." + above)[change] == colour):
            change += 1
        back = change + 1
        while back < many and above[back] != colour:
            back += 1
        if step[0] == "passed":
            place = back
            row += colour * (place - len(row))
        elif step[0] == "near":
            place = change + step[1]
            row += colour * (place - len(row))
            colour = other_colour(colour)
        else:
            row += colour * step[1] + other_colour(colour) * step[2]
            place = len(row)
    return row


def due_read(above, bits):
    """What is due of bits: read loosely, and taken only where that row's telling begins the bits; else None."""
    many = len(above)
    runs = {cell: {due_run(cell, run): run for run in range(many + 1)} for cell in ".#"}
    steps, at, colour, row = [], 0, ".", ""
    while not steps or len(row) < many:
        word = [one for one in STEP_WORDS if bits.startswith(STEP_WORDS[one], at)]
        if not word:
            return None
        at += len(STEP_WORDS[word[0]])
        step = word[0]
        if step == "plain":
            step = ("plain",)
            for cell in (colour, other_colour(colour)):
                told = [one for one in runs[cell] if bits.startswith(one, at)]
                if not told:
                    return None
                at += len(told[0])
                step += (runs[cell][told[0]],)
        steps.append(step)
        if step[0] == "near":
            colour = other_colour(colour)
        row = due_row(above, steps)
    if len(row) > many or not bits.startswith(due_above(above, row)):
        return None
    return row, len(due_above(above, row))


class TestAboveSteps(unittest.TestCase):
    def check(self, above, row):
        told = above_steps(above, row)
        self.assertIs(type(told), list)
        self.assertEqual(told, [step for step, colour in due_steps(above, row)], (above, row))
        self.assertTrue(all(type(step) is tuple for step in told))
        self.assertEqual(due_row(above, told), row)

    def test_a_row_by_itself(self):
        self.assertEqual(above_steps("........", "........"), [("near", 0)])
        self.assertEqual(above_steps("########", "########"), [("near", 0)] * 2)
        self.assertEqual(above_steps("..##...#", "..##...#"), [("near", 0)] * 4)
        self.assertEqual(above_steps(".#" * 32, ".#" * 32), [("near", 0)] * 64)
        self.assertEqual(above_steps("#." * 32, "#." * 32), [("near", 0)] * 65)
        for breadth in BREADTHS:
            for seed in range(10):
                row = patterned_row(breadth, seed)
                self.assertEqual(set(above_steps(row, row)), {("near", 0)})

    def test_rows_of_one_colour(self):
        self.assertEqual(above_steps("........", "########"), [("plain", 0, 8)])
        # The row above changes at 0 and never back, the row at its end: too far for near, and nothing is passed.
        self.assertEqual(above_steps("########", "........"), [("plain", 8, 0)])
        self.assertEqual(above_steps("." * 64, "#" * 64), [("plain", 0, 64)])
        self.assertEqual(above_steps("#" * 64, "." * 64), [("plain", 64, 0)])

    def test_near_from_minus_3_to_3(self):
        above = "......####......"
        for many in range(-3, 4):
            row = slid(above, many)
            self.assertEqual(above_steps(above, row), [("near", many), ("near", many), ("near", 0)])
        self.assertEqual(above_steps(above, slid(above, -4)), [("plain", 2, 4), ("near", 0)])
        self.assertEqual(above_steps(above, slid(above, 4)), [("plain", 10, 4), ("near", 0)])

    def test_passed(self):
        self.assertEqual(above_steps("..##....", "........"), [("passed",), ("near", 0)])
        self.assertEqual(above_steps("#.......", "........"), [("passed",), ("near", 0)])
        self.assertEqual(above_steps("#.#.#.#.", "........"), [("passed",)] * 4 + [("near", 0)])
        self.assertEqual(above_steps(".#.....#", "........"), [("passed",), ("near", 1)])
        self.assertEqual(above_steps("..#####.", "########"), [("near", -2), ("near", 1)])
        # Passed is where C is below A, not where they are one.
        self.assertEqual(above_steps("..##....", "....####"), [("near", 2), ("near", 0)])
        self.assertEqual(above_steps("..##....", ".....###"), [("passed",), ("near", -3), ("near", 0)])

    def test_plain(self):
        self.assertEqual(above_steps("........", "###....."), [("plain", 0, 3), ("near", 0)])
        self.assertEqual(above_steps("............", "##.....#...."), [("plain", 0, 2), ("plain", 5, 1), ("near", 0)])
        self.assertEqual(above_steps("............", "...#########"), [("plain", 3, 9)])
        self.assertEqual(above_steps("............", "...####.####"), [("plain", 3, 4), ("plain", 1, 4)])
        self.assertEqual(above_steps("." * 64, "." * 30 + "#" * 34), [("plain", 30, 34)])

    def test_unlike_in_one_cell(self):
        self.assertEqual(above_steps("..........", "....#....."), [("plain", 4, 1), ("near", 0)])
        self.assertEqual(above_steps("....#.....", ".........."), [("passed",), ("near", 0)])
        self.assertEqual(above_steps("..........", ".........#"), [("near", -1), ("near", 0)])

    def test_rows_that_begin_dark(self):
        self.assertEqual(above_steps("##......", "###....."), [("near", 0), ("near", 1), ("near", 0)])
        self.assertEqual(above_steps("..######", "########"), [("near", -2), ("near", 0)])
        self.assertEqual(above_steps("####....", "#......."), [("near", 0), ("near", -3), ("near", 0)])
        self.assertEqual(above_steps("#####...", "#......."), [("near", 0), ("plain", 1, 7)])

    def test_all_pairs_of_eight_cells(self):
        rows = list(all_rows(8))
        for above in rows[::3] + rows[-3:]:
            for row in rows:
                self.check(above, row)

    def test_other_breadths(self):
        for above, row in ALL_PAIRS:
            self.check(above, row)

    def test_all_kinds_come(self):
        kinds = {step[:1] if step[0] == "plain" else step for pair in ALL_PAIRS for step in above_steps(*pair)}
        self.assertEqual(kinds, {("plain",), ("passed",)} | {("near", many) for many in range(-3, 4)})

    def test_the_list_told_is_the_askers_own(self):
        told = above_steps("..##....", "...##...")
        kept = list(told)
        told[0] = ("passed",)
        told.append(("passed",))
        self.assertEqual(above_steps("..##....", "...##..."), kept)


class TestAboveBits(unittest.TestCase):
    def test_by_hand(self):
        self.assertEqual(above_bits("........", "........"), "1")
        self.assertEqual(above_bits("..##...#", "..##...#"), "1111")
        self.assertEqual(above_bits("........", "########"), "001" + "011001" + "01001")
        self.assertEqual(above_bits("########", "........"), "001" + "01111" + "0011011")
        self.assertEqual(above_bits("..##....", "........"), "00011" + "1")
        self.assertEqual(above_bits("#####...", "#......."), "1" + "001" + "11" + "10000")

    def test_the_words_of_near_steps(self):
        above = "......####......"
        words = {0: "1", 1: "011", -1: "010", 2: "00010", -2: "000011", 3: "000010", -3: "000001"}
        for many, word in words.items():
            self.assertEqual(above_bits(above, slid(above, many)), word + word + "1")

    def check(self, above, row):
        told = above_bits(above, row)
        self.assertIs(type(told), str)
        due = "".join(due_step_bits(step, colour) for step, colour in due_steps(above, row))
        self.assertEqual(told, due, (above, row))
        self.assertNotIn("0" * 10, told, (above, row))

    def test_other_breadths(self):
        for above, row in ALL_PAIRS:
            self.check(above, row)

    def test_nine_0s_come_but_no_ten(self):
        # A run of ten dark cells ends with four 0s, and near by -3 begins with five.
        above = "." * 15 + "#" * 9
        row = "." + "#" * 10 + "." + "#" * 12
        self.assertEqual(above_bits(above, row), "001" + "1111" + "010000" + "000001" + "1")
        words = list(STEP_WORDS.values()) + RUN_WORDS["."] + RUN_WORDS["#"]
        for word in words:
            self.assertIn("1", word)
            for behind in words:
                self.assertNotIn("0" * 10, word + behind)


class TestReadAbove(RefusalCase):
    def refused(self, above, thing):
        self.assert_refused(NoTelling, read_above, above, thing)

    def check_read(self, above, row, behind):
        telling = due_above(above, row)
        read = read_above(above, telling + behind)
        self.assertIs(type(read), tuple)
        self.assertEqual(read, (row, len(telling)), (above, row, behind))

    def test_by_hand(self):
        self.assertEqual(read_above("........", "1"), ("........", 1))
        self.assertEqual(read_above("..##...#", "111110000"), ("..##...#", 4))
        self.assertEqual(read_above("........", "00101100101001"), ("########", 14))
        self.assertEqual(read_above("..##....", "0001111"), ("........", 6))

    def test_all_pairs_of_eight_cells(self):
        rows = list(all_rows(8))
        for above in rows:
            for row in rows:
                telling = above_bits(above, row)
                self.assertNotIn("0" * 10, telling)
                self.assertEqual(read_above(above, telling), (row, len(telling)), (above, row))

    def test_other_breadths_with_any_bits_behind(self):
        for number, (above, row) in enumerate(ALL_PAIRS):
            for behind in ("", "0" * 11, "1", patterned_bits(25, number), due_above(row, above)):
                self.check_read(above, row, behind)
            self.assertIs(is_row(read_above(above, due_above(above, row))[0]), True)

    def test_all_short_bits_behind(self):
        for above, row in (("........", "...##..."), ("########", "........"), ("..##..##", "#..##...")):
            for behind in all_bits(6):
                self.check_read(above, row, behind)

    def test_all_short_bits(self):
        # No such telling begins another one, so just those bits are read that begin with one of them.
        for above in ("........", "########", "..##...#", "#.....#.", ".#.#.#.#", "....####"):
            tellings = {due_above(above, row): row for row in all_rows(8)}
            self.assertEqual(len(tellings), 256)
            for bits in all_bits(10):
                due = [one for one in (bits[:many] for many in range(len(bits) + 1)) if one in tellings]
                self.assertLessEqual(len(due), 1)
                if due:
                    self.assertEqual(read_above(above, bits), (tellings[due[0]], len(due[0])), (above, bits))
                else:
                    self.refused(above, bits)

    def check_due(self, above, bits):
        due = due_read(above, bits)
        if due is None:
            self.refused(above, bits)
        else:
            self.assertEqual(read_above(above, bits), due, (above, bits))

    def test_patterned_bits(self):
        for seed in range(150):
            for breadth in (8, 12, 64):
                self.check_due(patterned_row(breadth, seed), patterned_bits(200, seed))

    def test_one_bit_turned_at_any_place(self):
        for above, row in ALL_PAIRS[::23]:
            telling = due_above(above, row)
            for place, bit in enumerate(telling):
                self.check_due(above, telling[:place] + "10"[int(bit)] + telling[place + 1:] + "0" * 11)

    def test_by_another_row_above(self):
        for number, (above, row) in enumerate(ALL_PAIRS[::5]):
            for other in (patterned_row(len(row), number), row, row[::-1], "." * len(row)):
                self.check_due(other, due_above(above, row))

    def test_cut_at_any_place(self):
        for above, row in ALL_PAIRS[::17]:
            telling = due_above(above, row)
            for place in range(len(telling)):
                self.refused(above, telling[:place])

    def test_another_step_in_the_place_of_the_due_one(self):
        others = [step for step in STEP_WORDS if step != "plain"]
        others += [("plain", one, two) for one in (0, 1, 5, 8) for two in (0, 1, 3, 8)]
        for above, row in ALL_PAIRS[::29]:
            steps = due_steps(above, row)
            for number in {0, len(steps) // 2, len(steps) - 1}:
                ahead = "".join(due_step_bits(*one) for one in steps[:number])
                behind = "".join(due_step_bits(*one) for one in steps[number + 1:])
                for other in others:
                    if other[0] != "plain" or max(other[1:]) <= len(row):
                        self.check_due(above, ahead + due_step_bits(other, steps[number][1]) + behind)

    def plain(self, one, two, colour="."):
        return due_step_bits(("plain", one, two), colour)

    def test_a_plain_step_where_near_is_due(self):
        above = "....##.."
        for change in range(1, 7):
            self.refused(above, self.plain(change, 1) + "1" * 4)
        self.refused("........", self.plain(8, 0))
        self.refused("........", self.plain(5, 3))
        self.refused("........", self.plain(7, 1))
        self.assertEqual(read_above("........", self.plain(4, 4)), ("....####", len(self.plain(4, 4))))

    def test_a_plain_step_where_passed_is_due(self):
        above = "#......."
        self.refused(above, self.plain(6, 2))
        self.refused(above, self.plain(8, 0))
        self.refused("." + above[:-1], self.plain(7, 1))

    def test_a_near_step_where_passed_is_due(self):
        above = ".#......"
        self.assertEqual(read_above(above, STEP_WORDS["near", 1] + "1" * 8), ("..######", 4))
        self.refused(above, STEP_WORDS["near", 2] + "1" * 8)
        self.refused(above, STEP_WORDS["near", 3] + "1" * 8)

    def test_passed_where_nothing_is_passed(self):
        for above in ("........", "....####", "########", ".......#"):
            self.refused(above, STEP_WORDS[("passed",)] + "1" * 8)

    def test_a_step_that_leads_beyond_the_rows_end(self):
        for many in (1, 2, 3):
            self.refused("........", STEP_WORDS["near", many] + "1" * 8)
        self.refused(".......#", STEP_WORDS["near", 2])
        self.refused("......##", STEP_WORDS["near", 3])
        self.refused("........", self.plain(0, 8)[:-5] + due_run("#", 9) + "1")
        self.refused("........", self.plain(1, 8))
        self.refused("........", self.plain(4, 5))
        self.refused("#" * 8, self.plain(8, 1))
        self.refused("#" * 8, self.plain(9, 0))

    def test_a_step_that_leads_no_further(self):
        self.refused("#.......", STEP_WORDS["near", -1] + "1" * 8)
        self.refused("#.......", STEP_WORDS["near", -3] + "1" * 8)
        self.refused("##......", STEP_WORDS["near", 0] + STEP_WORDS["near", -2] + "1" * 8)
        self.refused("##......", STEP_WORDS["near", 0] + STEP_WORDS["near", -3] + "1" * 8)
        self.refused("........", self.plain(0, 0) + "1" * 8)
        self.refused("........", self.plain(2, 0) + "1" * 8)
        self.refused("........", self.plain(0, 1) + self.plain(0, 2) + "1" * 8)

    def test_other_signs_at_any_place(self):
        for sign in odd_signs("01"):
            for above, row in (("..##...#", "#..##..."), ("." * 64, "#" * 64)):
                telling = due_above(above, row) + "00"
                for place in range(len(telling) + 1):
                    self.refused(above, telling[:place] + sign + telling[place:])
                    self.refused(above, telling[:place] + sign + telling[place + 1:])
        self.refused("........", "1" + "0" * 11990 + "2")

    def test_other_texts(self):
        for text in ("", " ", "0", "0" * 12000, "........", "..##...#", "near"):
            for above in ("........", "..##...#", "#" * 64):
                self.refused(above, text)

    def test_things_that_are_no_texts(self):
        for thing in NO_BITS:
            for above in ("........", "..##...#", "#" * 64):
                self.refused(above, thing)

    def test_things_handed_in_stay(self):
        thing = ["1", [0, 1], ("1",)]
        self.refused("........", thing)
        self.assertEqual(thing, ["1", [0, 1], ("1",)])


if __name__ == "__main__":
    unittest.main()
