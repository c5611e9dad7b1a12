"""Promises 12, 13 and 14, and 2 and 3 of them: the bits of a page, marks, stretches, and rows read from any bits."""

import unittest

from farpage.spoils import spoiled
from farpage.stream import mark_ends, page_bits, read_bits, stretches
from tests.helper import (
    all_rows, drifting_page, due_above, due_plain, patterned_bits, patterned_numbers, patterned_page, patterned_spoils,
)

MARK = "0" * 11 + "1"
END = (MARK + "1") * 6
PAGE = ("..##...#", "..###...", "#..##...", "........", "########", "########")


def due_row_bits(page, number, every):
    """The mark, the tag and the telling of a row, by the words of promise 12."""
    if number % every == 0:
        return MARK + "1" + due_plain(page[number])
    return MARK + "0" + due_above(page[number - 1], page[number])


def due_rows(page, every, least):
    """The bits of each row, with the filling 0s."""
    rows = []
    for number in range(len(page)):
        bits = due_row_bits(page, number, every)
        while len(bits) < least:
            bits += "0"
        rows.append(bits)
    return rows


def due_page(page, every, least):
    return "".join(due_rows(page, every, least)) + END


def due_ends(bits):
    """The marks' ends by the words of promise 13, 1 by 1."""
    return [at + 1 for at in range(11, len(bits)) if bits[at] == "1" and set(bits[at - 11:at]) == {"0"}]


def due_empty(stretch):
    return len(stretch) > 2 and stretch[0] == stretch[-1] == "1" and set(stretch[1:-1]) == {"0"}


def due_stretches(bits):
    ends = due_ends(bits)
    found = [bits[one:two] for one, two in zip(ends, ends[1:])]
    for number in range(len(found) - 1):
        if due_empty(found[number]) and due_empty(found[number + 1]):
            return found[:number], True
    return found, False


def due_read(breadth, bits, rows):
    """What is due of bits, where each telling in them is of one of the rows: by writing each row that may be told."""
    found, met = due_stretches(bits)
    told = []
    for stretch in found:
        body, row = stretch[1:-1], None
        for one in rows:
            if stretch[0] == "1":
                telling = due_plain(one)
            elif told and told[-1][1] == "read":
                telling = due_above(told[-1][0], one)
            else:
                continue
            if body.startswith(telling) and set(body[len(telling):]) == {"0"}:
                row = one
        if row is not None:
            told.append((row, "read"))
        else:
            told.append((told[-1][0] if told else "." * breadth, "guessed"))
    return told, met


def sparse_bits(many, seed):
    """Bits with long stretches of 0s, so that there are marks among them."""
    parts = []
    for number in patterned_numbers(many, seed):
        parts.append("0" * (number % 15) + "1" * (1 + number // 15 % 2))
    return "".join(parts)


def all_read(page):
    return [(row, "read") for row in page]


class TestPageBits(unittest.TestCase):
    def check(self, page, every, least):
        told = page_bits(page, every, least)
        self.assertIs(type(told), str)
        self.assertEqual(told, due_page(page, every, least), (page, every, least))
        self.assertEqual(told.count(MARK), len(page) + 6)

    def test_by_hand(self):
        self.assertEqual(page_bits(("........",), 1, 0), MARK + "1" + "01111" + END)
        self.assertEqual(page_bits(("........",), 1, 18), MARK + "1" + "01111" + END)
        self.assertEqual(page_bits(("........",), 1, 19), MARK + "1" + "01111" + "0" + END)
        self.assertEqual(page_bits(("........",), 4, 40), MARK + "1" + "01111" + "0" * 22 + END)
        two = ("........", "........")
        plain, above = MARK + "1" + "01111", MARK + "0" + "1"
        self.assertEqual(page_bits(two, 1, 0), plain + plain + END)
        self.assertEqual(page_bits(two, 2, 0), plain + above + END)
        self.assertEqual(page_bits(two * 3, 4, 0), plain + above * 3 + plain + above + END)
        self.assertEqual(page_bits(two, 2, 16), plain + above + "00" + END)

    def test_the_tags(self):
        page = patterned_page(24, 20, 5)
        for every in (1, 2, 4):
            bits = page_bits(page, every, 0)
            tags = [bits[end] for end in due_ends(bits)[:24]]
            self.assertEqual(tags, ["1" if number % every == 0 else "0" for number in range(24)])

    def test_pages(self):
        for every in (1, 2, 4):
            for many in (1, 2, 3, 4, 5, 8, 9, 24):
                for breadth in (8, 9, 33, 64):
                    for least in (0, 16, 64, 240):
                        self.check(patterned_page(many, breadth, many), every, least)
                        self.check(drifting_page(many, breadth, many), every, least)
        for every in (1, 2, 4):
            self.check(PAGE, every, 0)

    def test_all_leasts(self):
        for every in (1, 2, 4):
            for least in range(241):
                self.check(PAGE, every, least)

    def test_one_more_and_one_less_than_a_rows_own_bits(self):
        for breadth in (8, 64):
            page = drifting_page(6, breadth, 2)
            for every in (1, 2, 4):
                for number in range(len(page)):
                    own = len(due_row_bits(page, number, every))
                    for least in (own - 1, own, own + 1):
                        self.check(page, every, least)
                        ends = mark_ends(page_bits(page, every, least))
                        self.assertEqual(ends[number + 1] - ends[number], max(own, least))

    def test_pages_of_one_row(self):
        for row in all_rows(8):
            for every in (1, 2, 4):
                self.check((row,), every, 0)

    def test_least_somewhat_beyond_its_bound(self):
        self.check(PAGE, 2, 300)


class TestMarkEnds(unittest.TestCase):
    def check(self, bits, due):
        told = mark_ends(bits)
        self.assertIs(type(told), list)
        self.assertEqual(told, due, bits)

    def test_numbers_of_0s(self):
        for many in range(0, 11):
            self.check("0" * many + "1", [])
            self.check("1" + "0" * many + "1", [])
        for many in (11, 12, 13, 22, 23, 24, 500, 11998):
            self.check("0" * many + "1", [many + 1])
            self.check("1" + "0" * many + "1", [many + 2])
            self.check("0" * many + "11", [many + 1])

    def test_without_a_mark(self):
        self.check("", [])
        self.check("0", [])
        self.check("1", [])
        self.check("0" * 11, [])
        self.check("0" * 12000, [])
        self.check("1" * 12000, [])
        self.check("0000000001" * 200, [])
        self.check("00000000001" * 200, [])

    def test_several(self):
        self.check(MARK * 2, [12, 24])
        self.check(MARK + "1" + MARK, [12, 25])
        self.check(END, [12, 25, 38, 51, 64, 77])
        self.check(MARK + "0" + MARK + "0" * 11, [12, 25])
        self.check("0" * 5 + "1" + MARK, [18])

    def test_patterned_bits(self):
        for seed in range(100):
            bits = sparse_bits(40, seed)
            self.check(bits, due_ends(bits))
            self.check(bits + bits[::-1], due_ends(bits + bits[::-1]))

    def test_the_list_told_is_the_askers_own(self):
        told = mark_ends(END)
        told[0] = 5
        told.append(99)
        self.assertEqual(mark_ends(END), [12, 25, 38, 51, 64, 77])


class TestStretches(unittest.TestCase):
    def check(self, bits, found, met):
        told = stretches(bits)
        self.assertIs(type(told), tuple)
        self.assertIs(type(told[0]), list)
        self.assertEqual(told, (found, met), bits)
        self.assertIs(told[1], met)

    def test_without_a_mark_and_with_one(self):
        for bits in ("", "0", "1", "0" * 12000, "1" * 12000, MARK, "1" + MARK, MARK + "1" + "0" * 40, MARK + "1" * 40,
                     "101" + MARK + "00101"):
            self.check(bits, [], False)

    def test_two_marks(self):
        for inner in ("", "0", "1", "10", "101", "0101" * 10):
            self.check(MARK + inner + MARK, [inner + MARK], False)
            self.check("101" + MARK + inner + MARK + "1011", [inner + MARK], False)

    def test_marks_of_more_0s(self):
        self.check("0" * 5 + MARK + "101" + "0" * 9 + MARK, ["101" + "0" * 9 + MARK], False)

    def test_one_empty_stretch_alone(self):
        empty = "1" + MARK
        self.check(MARK + empty, [empty], False)
        self.check(MARK + "101" + MARK + empty, ["101" + MARK, empty], False)
        self.check(MARK + empty + "101" + MARK, [empty, "101" + MARK], False)
        self.check(MARK + empty + "101" + MARK + empty, [empty, "101" + MARK, empty], False)

    def test_two_together(self):
        empty = "1" + MARK
        self.check(MARK + empty * 2, [], True)
        self.check(MARK + "101" + MARK + empty * 2, ["101" + MARK], True)
        self.check(MARK + "101" + MARK + empty * 2 + "11" + MARK, ["101" + MARK], True)
        self.check(MARK + empty + "101" + MARK + empty * 2, [empty, "101" + MARK], True)

    def test_three_together(self):
        empty = "1" + MARK
        self.check(MARK + empty * 3, [], True)
        self.check(MARK + "101" + MARK + empty * 3, ["101" + MARK], True)
        self.check(END, [], True)

    def test_only_the_first_two_end_the_page(self):
        empty = "1" + MARK
        bits = MARK + "0" + MARK + empty * 2 + "101" + MARK + empty * 2
        self.check(bits, ["0" + MARK], True)

    def test_empty_ones_of_more_0s(self):
        for many in (0, 1, 5, 300):
            empty = "1" + "0" * many + MARK
            self.check(MARK + empty, [empty], False)
            self.check(MARK + empty + "1" + MARK, [], True)
            self.check(MARK + "1" + MARK + empty, [], True)

    def test_what_is_not_empty(self):
        for inner in ("", "0", "00000", "11", "101", "01", "1" + "0" * 10 + "1"):
            self.check(MARK + (inner + MARK) * 2, [inner + MARK] * 2, False)
            self.check(MARK + "1" + MARK + inner + MARK + "1" + MARK,
                       ["1" + MARK, inner + MARK, "1" + MARK], False)

    def test_of_a_page(self):
        for every in (1, 2, 4):
            for least in (0, 50):
                rows = due_rows(PAGE, every, least)
                due = [one[12:] + MARK for one in rows]
                self.check("".join(rows) + END, due, True)
                self.check("10110" + "".join(rows) + END + "0110", due, True)
                self.check("".join(rows) + MARK, due, False)
                self.check("".join(rows), due[:-1], False)

    def test_patterned_bits(self):
        met = 0
        for seed in range(300):
            bits = sparse_bits(30, seed)
            due = due_stretches(bits)
            self.check(bits, due[0], due[1])
            met += due[1]
        self.assertGreater(met, 0)

    def test_the_list_told_is_the_askers_own(self):
        for bits in (due_page(PAGE, 2, 0), "".join(due_rows(PAGE, 2, 0))):
            told = stretches(bits)
            kept = list(told[0])
            told[0].append("1")
            told[0][0] = "0"
            self.assertEqual(stretches(bits)[0], kept)


class TestReadBits(unittest.TestCase):
    def check(self, breadth, bits, rows, met):
        told = read_bits(breadth, bits)
        self.assertIs(type(told), tuple)
        self.assertIs(type(told[0]), list)
        self.assertEqual(told, (rows, met), bits)
        self.assertIs(told[1], met)
        for one in told[0]:
            self.assertIs(type(one), tuple)

    def test_pages_lead_back(self):
        for every in (1, 2, 4):
            for many in (1, 2, 3, 8, 24):
                for breadth in (8, 9, 33, 64):
                    for least in (0, 16, 64, 240):
                        for page in (patterned_page(many, breadth, many), drifting_page(many, breadth, breadth)):
                            self.check(breadth, page_bits(page, every, least), all_read(page), True)

    def test_all_rows_of_eight_cells(self):
        rows = list(all_rows(8))
        for start in range(0, 256, 16):
            page = tuple(rows[start:start + 16])
            for every in (1, 2, 4):
                self.check(8, page_bits(page, every, 0), all_read(page), True)

    def test_with_bits_ahead_and_behind(self):
        bits = page_bits(PAGE, 2, 30)
        for ahead in ("1", "0", "0" * 11, "0" * 500, "1" * 500, "0110", "00000000001" * 3, patterned_bits(60, 4)):
            self.assertNotIn(MARK, ahead)
            self.check(8, ahead + bits, all_read(PAGE), True)
            for behind in ("0", "1", MARK, MARK * 5, bits, "0" * 400, patterned_bits(200, 7)):
                self.check(8, ahead + bits + behind, all_read(PAGE), True)

    def test_no_end_met(self):
        rows = due_rows(PAGE, 2, 0)
        self.check(8, "", [], False)
        self.check(8, "0" * 12000, [], False)
        self.check(8, "1" * 12000, [], False)
        self.check(8, MARK, [], False)
        self.check(8, "".join(rows), all_read(PAGE[:-1]), False)
        self.check(8, "".join(rows) + MARK, all_read(PAGE), False)
        self.check(8, "".join(rows) + MARK + "1" + "0" * 11, all_read(PAGE), False)
        # One empty stretch is no end: a row is told of it, and it's a guessed one.
        self.check(8, "".join(rows) + MARK + "1" + MARK, all_read(PAGE) + [(PAGE[-1], "guessed")], False)
        self.check(8, "".join(rows) + MARK + ("1" + MARK) * 2, all_read(PAGE), True)

    def test_an_end_without_rows(self):
        self.check(8, END, [], True)
        self.check(64, END + page_bits(PAGE, 1, 0), [], True)

    def test_a_spoilt_stretch_ahead_of_all(self):
        plain = MARK + "1" + due_plain(PAGE[0])
        self.check(8, MARK + "1" + "1111" + plain + END, [("........", "guessed"), (PAGE[0], "read")], True)
        self.check(8, MARK + plain + END, [("........", "guessed"), (PAGE[0], "read")], True)
        self.check(8, MARK + "1" + plain + END, [("........", "guessed"), (PAGE[0], "read")], True)
        self.check(12, MARK + "1" + "1111" + END, [("." * 12, "guessed")], True)

    def test_a_spoilt_stretch_tells_the_row_ahead(self):
        plain = [MARK + "1" + due_plain(row) for row in PAGE]
        spoilt = MARK + "1" + "11"
        self.check(8, plain[0] + spoilt + END, [(PAGE[0], "read"), (PAGE[0], "guessed")], True)
        self.check(8, plain[0] + spoilt * 2 + plain[1] + spoilt + END,
                   [(PAGE[0], "read"), (PAGE[0], "guessed"), (PAGE[0], "guessed"), (PAGE[1], "read"),
                    (PAGE[1], "guessed")], True)

    def test_a_row_told_by_none_or_by_a_guessed_one_is_guessed(self):
        plain = MARK + "1" + due_plain(PAGE[0])
        above = MARK + "0" + due_above(PAGE[0], PAGE[1])
        spoilt = MARK + "1" + "11"
        light = MARK + "0" + due_above("........", PAGE[0])
        self.check(8, light + END, [("........", "guessed")], True)
        self.check(8, light + plain + END, [("........", "guessed"), (PAGE[0], "read")], True)
        self.check(8, plain + above + END, [(PAGE[0], "read"), (PAGE[1], "read")], True)
        self.check(8, plain + spoilt + above + END,
                   [(PAGE[0], "read"), (PAGE[0], "guessed"), (PAGE[0], "guessed")], True)
        self.check(8, plain + spoilt + above + plain + above + END,
                   [(PAGE[0], "read"), (PAGE[0], "guessed"), (PAGE[0], "guessed"), (PAGE[0], "read"),
                    (PAGE[1], "read")], True)

    def test_a_1_among_the_0s_behind_the_telling(self):
        telling = MARK + "1" + due_plain(PAGE[0])
        above = MARK + "0" + due_above(PAGE[0], PAGE[1])
        for many in range(0, 11):
            for behind in ("1", "1" + "0" * 5, "1" + "0" * 20, "101"):
                self.check(8, telling + "0" * many + behind + END, [("........", "guessed")], True)
                self.check(8, telling + above + "0" * many + behind + END,
                           [(PAGE[0], "read"), (PAGE[0], "guessed")], True)
        for many in (0, 1, 11, 12, 300):
            self.check(8, telling + "0" * many + above + "0" * many + END, all_read(PAGE[:2]), True)

    def test_a_1_that_ends_a_mark_within_the_filling(self):
        telling = MARK + "1" + due_plain(PAGE[0])
        bits = telling + "0" * 11 + "1" + "0" * 20 + END
        self.check(8, bits, [(PAGE[0], "read"), (PAGE[0], "guessed")], True)

    def test_by_another_breadth(self):
        bits = page_bits(PAGE, 1, 0)
        for breadth in (9, 20, 64):
            self.assertEqual(read_bits(breadth, bits), ([("." * breadth, "guessed")] * 6, True))

    def test_a_wrong_tag(self):
        plain, above = due_plain(PAGE[0]), due_above(PAGE[0], PAGE[1])
        self.check(8, MARK + "0" + plain + END, [("........", "guessed")], True)
        bits = MARK + "1" + plain + MARK + "1" + above + END
        due = due_read(8, bits, list(all_rows(8)))
        self.check(8, bits, due[0], due[1])

    def test_the_list_told_is_the_askers_own(self):
        bits = page_bits(PAGE, 2, 0)
        told = read_bits(8, bits)[0]
        told[0] = ("########", "guessed")
        told.append(("########", "read"))
        self.assertEqual(read_bits(8, bits), (all_read(PAGE), True))


class TestSpoiledPages(unittest.TestCase):
    def spoils_at(self, place):
        return [[("turn", place)], [("lose", place)], [("put", place, "0")], [("put", place, "1")],
                [("turn", place), ("turn", place + 3)], [("lose", place)] * 5,
                [("put", place, "1")] * 3, [("put", place, "0")] * 12]

    def left_places(self, many, spoils):
        """Of each bit that is left the place where it was sent, -1 where it wasn't sent so."""
        places = list(range(many))
        for kind, place, *bit in spoils:
            if kind == "turn" and place < len(places):
                places[place] = -1
            elif kind == "lose":
                del places[place:place + 1]
            elif kind == "put" and place <= len(places):
                places.insert(place, -1)
        return places

    def check(self, page, every, own, spoils):
        """Each row whose bits came as they were sent is read, where it is told plainly or by such a row."""
        bits = "".join(own) + END
        spoilt = spoiled(bits, spoils)
        places = self.left_places(len(bits), spoils)
        rows, met = read_bits(len(page[0]), spoilt)
        ends = mark_ends(spoilt)
        first, right, many = 0, False, 0
        for number, row in enumerate(page):
            behind = first + len(own[number])
            at = places.index(first) if first in places else 0
            came = places[at:at + behind + 12 - first] == list(range(first, behind + 12))
            right = came and (right or number % every == 0)
            if right and ends.index(at + 12) < len(rows):
                self.assertEqual(rows[ends.index(at + 12)], (row, "read"), (page, spoils))
                many += 1
            first = behind
        return many

    def test_spoilt_at_any_place(self):
        for breadth, many, least in ((8, 6, 0), (8, 5, 48), (20, 6, 0), (64, 5, 64)):
            for every in (1, 2, 4):
                page = drifting_page(many, breadth, breadth + many)
                own = due_rows(page, every, least)
                for place in range(len("".join(own) + END) + 1):
                    for number, spoils in enumerate(self.spoils_at(place)):
                        read = self.check(page, every, own, spoils)
                        # One spoil is of two rows at most, where each row is told plainly.
                        if every == 1 and number < 4:
                            self.assertGreaterEqual(read, many - 2, spoils)

    def test_many_spoils(self):
        read = 0
        for seed in range(300):
            page = drifting_page(12, 16, seed)
            for every in (1, 4):
                read += self.check(page, every, due_rows(page, every, 40), patterned_spoils(1 + seed % 12, 600, seed))
        self.assertGreater(read, 600)

    def test_by_all_rows_written(self):
        # Of eight cells every row can be written, so that what is due is found without reading any telling.
        rows = list(all_rows(8))
        page = PAGE[:4]
        for every in (1, 2):
            bits = page_bits(page, every, 0)
            for place in range(0, len(bits) + 1, 2):
                for spoils in self.spoils_at(place)[:4]:
                    spoilt = spoiled(bits, spoils)
                    self.assertEqual(read_bits(8, spoilt), due_read(8, spoilt, rows), spoils)

    def test_many_spoils_fail_in_no_way(self):
        for seed in range(150):
            page = drifting_page(12, 16, seed)
            bits = page_bits(page, 4, 40)
            spoils = patterned_spoils(40, len(bits), seed)
            rows, met = read_bits(16, spoiled(bits, spoils))
            self.assertEqual(len(rows), len(due_stretches(spoiled(bits, spoils))[0]))
            self.assertIs(met, due_stretches(spoiled(bits, spoils))[1])
            for row, how in rows:
                self.assertEqual((len(row), set(row) <= {".", "#"}), (16, True))
                self.assertIn(how, ("read", "guessed"))


if __name__ == "__main__":
    unittest.main()
