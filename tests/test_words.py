"""Promises 6 and 7, and 2 of them: words by lengths, and the bits of runs."""

import itertools
import unittest

from farpage.errors import NoWords
from farpage.words import run_bits, words_by
from tests.helper import DARK_WORDS, LIGHT_WORDS, RefusalCase

LIGHT_LENGTHS = [6, 4, 4, 4, 4, 4, 5, 5, 5, 5, 6, 6, 6, 6, 6, 6, 4, 5, 6, 4]
DARK_LENGTHS = [7, 2, 3, 3, 4, 4, 5, 5, 5, 6, 6, 6, 7, 7, 7, 7, 6, 7, 7, 7]
STEP_LENGTHS = [1, 3, 3, 3, 5, 5, 6, 6, 6]


def made_words(lengths):
    """The words by the words of promise 6, made over numbers; None where they are refused."""
    words = {}
    number, width = None, 0
    for length in range(1, max(lengths) + 1):
        for place in [at for at, one in enumerate(lengths) if one == length]:
            if number == 0:
                return None
            if number is None:
                number = 2 ** length - 1
            else:
                number = (number - 1) * 2 ** (length - width) + 2 ** (length - width) - 1
            width = length
            words[place] = format(number, "b").zfill(length)
    return [words[place] for place in range(len(lengths))]


def begins_another(words):
    return any(one != two and words[two].startswith(words[one])
               for one in range(len(words)) for two in range(len(words)))


class TestWordsBy(RefusalCase):
    def refused(self, lengths):
        self.assert_refused(NoWords, words_by, list(lengths))

    def check(self, lengths):
        due = made_words(lengths)
        if due is None:
            self.refused(lengths)
            return
        told = words_by(list(lengths))
        self.assertIs(type(told), list)
        self.assertEqual(told, due, lengths)
        self.assertEqual([len(word) for word in told], list(lengths))
        self.assertFalse(begins_another(told), lengths)

    def test_one_length(self):
        for length in range(1, 13):
            self.assertEqual(words_by([length]), ["1" * length])

    def test_by_hand(self):
        self.assertEqual(words_by([1, 2]), ["1", "01"])
        self.assertEqual(words_by([2, 1]), ["01", "1"])
        self.assertEqual(words_by([1, 2, 3, 3]), ["1", "01", "001", "000"])
        self.assertEqual(words_by([3, 2, 3, 1]), ["001", "01", "000", "1"])
        self.assertEqual(words_by([2, 2, 2]), ["11", "10", "01"])
        self.assertEqual(words_by([2, 4, 2]), ["11", "0111", "10"])
        self.assertEqual(words_by([12, 1]), ["0" + "1" * 11, "1"])
        self.assertEqual(words_by([5, 2, 5, 3]), ["10011", "11", "10010", "101"])
        self.assertEqual(words_by(STEP_LENGTHS),
                         ["1", "011", "010", "001", "00011", "00010", "000011", "000010", "000001"])

    def test_the_two_tables(self):
        self.assertEqual(made_words(LIGHT_LENGTHS), LIGHT_WORDS)
        self.assertEqual(made_words(DARK_LENGTHS), DARK_WORDS)
        self.assertEqual(words_by(LIGHT_LENGTHS), LIGHT_WORDS)
        self.assertEqual(words_by(DARK_LENGTHS), DARK_WORDS)

    def test_equal_lengths(self):
        for length in range(1, 13):
            for many in range(1, 41):
                self.check([length] * many)

    def test_equal_lengths_go_down_from_the_first(self):
        self.assertEqual(words_by([3] * 8), ["111", "110", "101", "100", "011", "010", "001", "000"])

    def test_all_short_lists(self):
        for many in range(1, 6):
            for lengths in itertools.product((1, 2, 3, 4), repeat=many):
                self.check(lengths)

    def test_unlike_lengths_in_any_order(self):
        for lengths in itertools.permutations([1, 2, 4, 4, 7, 12]):
            self.check(lengths)
        for lengths in itertools.permutations([2, 3, 3, 5, 9, 10]):
            self.check(lengths)

    def test_forty_lengths(self):
        self.check([6] * 40)
        self.check([12] * 40)
        self.check(list(range(1, 13)) + [12] * 28)
        for step in (1, 3, 7, 9, 11, 13):
            self.check([5 + (place * step) % 8 for place in range(40)])
        self.check([12 - place % 6 for place in range(40)])
        for step in (1, 5, 7):
            self.check([3] * 3 + [6 + (place * step) % 7 for place in range(37)])

    def test_the_last_word_has_no_one(self):
        self.assertEqual(words_by([1, 1]), ["1", "0"])
        self.assertEqual(words_by([2, 2, 2, 2]), ["11", "10", "01", "00"])
        self.assertEqual(words_by([1, 2, 2]), ["1", "01", "00"])
        self.assertEqual(words_by([2, 1, 2]), ["01", "1", "00"])
        self.assertEqual(words_by([5] * 32)[-1], "00000")
        full = list(range(1, 13)) + [12]
        self.assertEqual(words_by(full), ["0" * (length - 1) + "1" for length in range(1, 13)] + ["0" * 12])
        self.assertEqual(words_by(full[::-1])[:2], ["0" * 11 + "1", "0" * 12])

    def test_one_more_behind_it_is_refused(self):
        self.refused([1, 1, 1])
        self.refused([1, 1, 2])
        self.refused([2, 1, 1])
        self.refused([12, 1, 1])
        self.refused([2, 2, 2, 2, 2])
        self.refused([2, 2, 2, 2, 3])
        self.refused([1, 2, 2, 2])
        self.refused([2, 2, 1, 5])
        self.refused([5] * 33)
        self.refused([1, 1] + [12] * 38)
        self.refused(list(range(1, 13)) + [12, 12])
        self.refused([12, 12, 12] + list(range(1, 12)))

    def test_the_refused_list_stays(self):
        lengths = [2, 1, 1]
        with self.assertRaises(NoWords):
            words_by(lengths)
        self.assertEqual(lengths, [2, 1, 1])

    def test_the_list_handed_in_stays(self):
        for lengths in ([3, 1, 2], list(LIGHT_LENGTHS), list(DARK_LENGTHS), [12, 1]):
            before = list(lengths)
            words_by(lengths)
            self.assertEqual(lengths, before)

    def test_what_was_handed_in_may_be_changed_behind_the_call(self):
        lengths = [3, 1, 2]
        told = words_by(lengths)
        lengths[0] = 12
        lengths.append(5)
        self.assertEqual(told, ["001", "1", "01"])

    def test_a_told_list_is_the_askers_own(self):
        for lengths in ([3, 1, 2], LIGHT_LENGTHS, DARK_LENGTHS, STEP_LENGTHS):
            lengths = list(lengths)
            told = words_by(lengths)
            kept = list(told)
            again = words_by(lengths)
            self.assertIsNot(told, again)
            self.assertIsNot(told, lengths)
            told[0] = "x"
            told.append("y")
            told.reverse()
            self.assertEqual(again, kept)
            self.assertEqual(words_by(lengths), kept)


class TestRunBits(unittest.TestCase):
    def test_by_the_document(self):
        self.assertEqual(run_bits(".", 5), "1011")
        self.assertEqual(run_bits("#", 5), "0110")
        self.assertEqual(run_bits(".", 20), "1010" + "1100")

    def test_all_runs(self):
        for cell, words in ((".", LIGHT_WORDS), ("#", DARK_WORDS)):
            makers = {16: words[16], 32: words[17], 48: words[18], 64: words[19]}
            for run in range(0, 65):
                if run < 16:
                    due = words[run]
                else:
                    maker = max(one for one in makers if one <= run)
                    due = makers[maker] + words[run - maker]
                told = run_bits(cell, run)
                self.assertIs(type(told), str)
                self.assertEqual(told, due, (cell, run))

    def test_the_edges_between_makers(self):
        self.assertEqual(run_bits(".", 0), "011001")
        self.assertEqual(run_bits(".", 15), "010011")
        self.assertEqual(run_bits(".", 16), "1010" + "011001")
        self.assertEqual(run_bits(".", 31), "1010" + "010011")
        self.assertEqual(run_bits(".", 32), "01101" + "011001")
        self.assertEqual(run_bits(".", 48), "010010" + "011001")
        self.assertEqual(run_bits(".", 63), "010010" + "010011")
        self.assertEqual(run_bits(".", 64), "1001" + "011001")
        self.assertEqual(run_bits("#", 0), "0011011")
        self.assertEqual(run_bits("#", 15), "0010111")
        self.assertEqual(run_bits("#", 16), "001110" + "0011011")
        self.assertEqual(run_bits("#", 63), "0010101" + "0010111")
        self.assertEqual(run_bits("#", 64), "0010100" + "0011011")

    def test_the_lengths_of_the_bits(self):
        for cell, lengths in ((".", LIGHT_LENGTHS), ("#", DARK_LENGTHS)):
            for run in range(0, 65):
                due = lengths[run] if run < 16 else lengths[15 + run // 16] + lengths[run - run // 16 * 16]
                self.assertEqual(len(run_bits(cell, run)), due, (cell, run))

    def test_no_word_begins_another_one(self):
        for cell in ".#":
            ends = [run_bits(cell, run) for run in range(16)]
            makers = [run_bits(cell, run)[:-len(ends[0])] for run in (16, 32, 48, 64)]
            self.assertEqual(len(set(ends + makers)), 20)
            self.assertFalse(begins_another(ends + makers), cell)

    def test_runs_somewhat_beyond_the_bound_raise_nothing(self):
        for cell, words in ((".", LIGHT_WORDS), ("#", DARK_WORDS)):
            for run in range(65, 80):
                self.assertEqual(run_bits(cell, run), words[19] + words[run - 64])
            for run in range(80, 200):
                self.assertTrue(run_bits(cell, run))

    def test_asked_again_the_same(self):
        before = [run_bits(cell, run) for cell in ".#" for run in range(65)]
        words_by(LIGHT_LENGTHS)[0] = "x"
        self.assertEqual([run_bits(cell, run) for cell in ".#" for run in range(65)], before)


if __name__ == "__main__":
    unittest.main()
