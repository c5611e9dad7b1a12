"""Promises 4 and 5, and 2 of them: rows and pages told, shown, read and fitted."""

import unittest

from farpage.errors import NoPage
from farpage.pages import fit_page, fit_row, is_page, is_row, read_page, show_page
from tests.helper import NO_TEXTS, ROW, RefusalCase, odd_signs, patterned_page, patterned_row

ODD_SIGNS = odd_signs(".#")


class TestIsRow(unittest.TestCase):
    def test_breadths(self):
        for breadth in range(0, 130):
            due = 8 <= breadth <= 64
            for row in ("." * breadth, "#" * breadth, (".#" * breadth)[:breadth], ("#." * breadth)[:breadth]):
                self.assertIs(is_row(row), due, row)

    def test_a_long_text(self):
        self.assertIs(is_row("." * 12000), False)

    def test_odd_signs_at_any_place(self):
        for breadth in (8, 9, 33, 63, 64):
            for sign in ODD_SIGNS:
                for place in (0, 1, breadth // 2, breadth - 2, breadth - 1):
                    for row in ("." * breadth, "#" * breadth, patterned_row(breadth, 3)):
                        odd = row[:place] + sign + row[place + 1:]
                        self.assertIs(is_row(odd), False, odd)

    def test_odd_signs_alone(self):
        for sign in ODD_SIGNS:
            self.assertIs(is_row(sign * 8), False)
        self.assertIs(is_row(""), False)

    def test_things_that_are_no_texts(self):
        for thing in NO_TEXTS:
            self.assertIs(is_row(thing), False, thing)

    def test_a_page_is_no_row(self):
        self.assertIs(is_row((ROW,)), False)
        self.assertIs(is_row((ROW, ROW)), False)


class TestIsPage(unittest.TestCase):
    def test_numbers_of_rows(self):
        for many in range(0, 60):
            for breadth in (8, 64):
                self.assertIs(is_page(("." * breadth,) * many), 1 <= many <= 24, many)

    def test_all_breadths(self):
        for breadth in range(0, 130):
            for many in (1, 2, 24):
                self.assertIs(is_page(("#" * breadth,) * many), 8 <= breadth <= 64, breadth)

    def test_patterned_pages(self):
        for many in (1, 2, 13, 24):
            for breadth in (8, 9, 40, 64):
                self.assertIs(is_page(patterned_page(many, breadth, many + breadth)), True)

    def test_unlike_breadths_at_any_place(self):
        for many in (2, 3, 24):
            for place in range(many):
                for breadth in (8, 9, 11, 64):
                    rows = ["." * 10] * many
                    rows[place] = "." * breadth
                    self.assertIs(is_page(tuple(rows)), False, (many, place, breadth))

    def test_things_that_are_no_rows_at_any_place(self):
        for many in (1, 2, 3, 24):
            for place in range(many):
                for thing in NO_TEXTS + ["", ".", "." * 7, "." * 65, "....x...", (ROW,), ROW + "/" + ROW]:
                    rows = [ROW] * many
                    rows[place] = thing
                    self.assertIs(is_page(tuple(rows)), False, (many, place, thing))

    def test_other_things_of_the_breadth_of_a_row(self):
        self.assertIs(is_page((ROW, list(ROW))), False)
        self.assertIs(is_page((ROW, tuple(ROW))), False)
        self.assertIs(is_page((tuple(ROW), tuple(ROW))), False)

    def test_lists_are_no_pages(self):
        for many in (1, 2, 24):
            self.assertIs(is_page([ROW] * many), False)

    def test_other_things(self):
        for thing in NO_TEXTS + ["", ROW, ROW + "/" + ROW]:
            self.assertIs(is_page(thing), False, thing)


class TestShowAndRead(RefusalCase):
    def test_shown_with_a_stroke_between(self):
        self.assertEqual(show_page((ROW,)), ROW)
        self.assertEqual(show_page(("........", "########")), "......../########")
        self.assertEqual(show_page(("#.......", ".#......", "..#.....")), "#......./.#....../..#.....")

    def test_read_back(self):
        for many in range(1, 25):
            for breadth in range(8, 65):
                page = patterned_page(many, breadth, many * 64 + breadth)
                text = show_page(page)
                self.assertIs(type(text), str)
                self.assertEqual(len(text), many * breadth + many - 1)
                read = read_page(text)
                self.assertIs(type(read), tuple)
                self.assertEqual(read, page)
                self.assertIs(is_page(read), True)

    def test_read_by_hand(self):
        self.assertEqual(read_page("........"), ("........",))
        self.assertEqual(read_page("########/........"), ("########", "........"))

    def refused(self, thing):
        self.assert_refused(NoPage, read_page, thing)

    def test_strokes_out_of_place(self):
        for text in ("/", "//", "/" * 8, "/" * 40):
            self.refused(text)
        for many in (1, 2, 23, 24):
            text = show_page((ROW,) * many)
            self.refused("/" + text)
            self.refused(text + "/")
            self.refused("/" + text + "/")
        self.refused(ROW + "//" + ROW)
        self.refused(ROW + "///" + ROW)

    def test_rows_of_wrong_breadths(self):
        for many in (1, 2, 24):
            self.refused(show_page(("." * 7,) * many))
            self.refused(show_page(("." * 65,) * many))
            for place in range(many):
                for breadth in (0, 1, 7, 9, 64, 65):
                    rows = [ROW] * many
                    rows[place] = "." * breadth
                    if (many, breadth) not in ((1, 9), (1, 64)):
                        self.refused("/".join(rows))

    def test_too_many_rows(self):
        for many in (25, 26, 48, 240):
            self.refused("/".join([ROW] * many))
        self.refused("/".join(["#" * 64] * 25))

    def test_odd_signs(self):
        for sign in ODD_SIGNS:
            for place in (0, 4, 7):
                odd = ROW[:place] + sign + ROW[place + 1:]
                self.refused(odd)
                self.refused(odd + "/" + ROW)
                self.refused(ROW + "/" + odd)
        self.refused(" " + ROW)
        self.refused(ROW + " ")
        self.refused(ROW + "/ " + ROW)

    def test_other_texts(self):
        for text in ("", " ", ".", "#" * 7, "page", "." * 12000):
            self.refused(text)

    def test_things_that_are_no_texts(self):
        for thing in NO_TEXTS + [(ROW,), (ROW, ROW)]:
            self.refused(thing)


def fitted_cell(row, breadth, place):
    """Whether the cell at the place is dark, by the words of promise 5."""
    many = len(row)
    for old in range(many):
        if place * many // breadth <= old < (place + 1) * many // breadth and row[old] == "#":
            return True
    return False


def fitted(row, breadth):
    if len(row) == breadth:
        return row
    if len(row) < breadth:
        return row + "." * (breadth - len(row))
    return "".join("#" if fitted_cell(row, breadth, place) else "." for place in range(breadth))


class TestFit(unittest.TestCase):
    def test_own_breadth_stays(self):
        for breadth in range(8, 65):
            row = patterned_row(breadth, breadth)
            self.assertEqual(fit_row(row, breadth), row)

    def test_narrower_has_light_cells_behind(self):
        self.assertEqual(fit_row("########", 9), "########.")
        self.assertEqual(fit_row("#.#.#.##", 12), "#.#.#.##....")
        self.assertEqual(fit_row("########", 64), "#" * 8 + "." * 56)
        self.assertEqual(fit_row("#" * 63, 64), "#" * 63 + ".")

    def test_broader_by_hand(self):
        # Of nine cells the last fitted one covers two, of ten the fourth and the last one do.
        self.assertEqual(fit_row("#........", 8), "#.......")
        self.assertEqual(fit_row(".......#.", 8), ".......#")
        self.assertEqual(fit_row("........#", 8), ".......#")
        self.assertEqual(fit_row("......#..", 8), "......#.")
        self.assertEqual(fit_row("...#......", 8), "...#....")
        self.assertEqual(fit_row("....#.....", 8), "...#....")
        self.assertEqual(fit_row(".....#....", 8), "....#...")
        self.assertEqual(fit_row(".........#", 8), ".......#")
        self.assertEqual(fit_row("#..#..##........", 8), "##.#....")
        self.assertEqual(fit_row("." * 64, 8), "........")
        self.assertEqual(fit_row("#" * 64, 8), "########")

    def test_all_breadths(self):
        for many in range(8, 65):
            for breadth in range(8, 65):
                row = patterned_row(many, many * 64 + breadth)
                told = fit_row(row, breadth)
                self.assertIs(type(told), str)
                self.assertEqual(told, fitted(row, breadth), (row, breadth))
                self.assertIs(is_row(told), True)

    def test_one_dark_cell_at_each_place(self):
        for many in (9, 16, 17, 31, 63, 64):
            for breadth in sorted({8, max(8, many // 2), many - 1, many, min(64, many + 1), 13, 64}):
                for place in range(many):
                    row = "." * place + "#" + "." * (many - place - 1)
                    self.assertEqual(fit_row(row, breadth), fitted(row, breadth), (row, breadth))

    def test_one_light_cell_at_each_place(self):
        for many in (9, 16, 64):
            for breadth in (8, max(8, many // 2), many - 1):
                for place in range(many):
                    row = "#" * place + "." + "#" * (many - place - 1)
                    self.assertEqual(fit_row(row, breadth), fitted(row, breadth), (row, breadth))

    def test_pages_row_by_row(self):
        for many in (1, 2, 7, 24):
            for own in (8, 20, 64):
                for breadth in (8, 10, 19, 20, 21, 40, 64):
                    page = patterned_page(many, own, many + own)
                    told = fit_page(page, breadth)
                    self.assertIs(type(told), tuple)
                    self.assertEqual(told, tuple(fitted(row, breadth) for row in page))
                    self.assertIs(is_page(told), True)

    def test_what_was_told_is_shown_and_read(self):
        page = fit_page(read_page(show_page(patterned_page(5, 30, 1))), 12)
        self.assertEqual(read_page(show_page(page)), page)


class TestNothingIsChanged(unittest.TestCase):
    def test_things_handed_in_stay(self):
        thing = [ROW, [ROW, (ROW, None)], 5, True]
        is_row(thing)
        is_page(thing)
        with self.assertRaises(NoPage):
            read_page(thing)
        self.assertEqual(thing, [ROW, [ROW, (ROW, None)], 5, True])

    def test_a_list_within_a_tuple_stays(self):
        inner = [ROW]
        self.assertIs(is_page((ROW, inner)), False)
        self.assertEqual(inner, [ROW])


if __name__ == "__main__":
    unittest.main()
