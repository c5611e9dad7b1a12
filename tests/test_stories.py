"""Promise 33, and 2 of it: two books held against one another."""

import itertools
import unittest

from farpage.house import House
from farpage.stories import stories
from tests.helper import patterned_draw, patterned_page

WORDS = ("good", "rough", "refused", "unsure", "unsent")


def kept(number, to="bo", ends=()):
    return ("kept", number, to, ends)


def told(number, word, to="bo"):
    return ("told", number, to, word)


def had(number, name="ann", guessed=()):
    return ("had", (name, number), guessed)


def due_word(words):
    """The word that counts of all words told of a page, by the words of promise 33, from the last one back."""
    if not words:
        return "waiting"
    if words[-1] == "unsent" and len(words) > 1 and due_word(words[:-1]) == "unsure":
        return "unsure"
    return words[-1]


def due_stories(one, other, book, far):
    rows = []
    for row in book:
        if row[0] == "kept" and row[2] == other:
            word = due_word([each[3] for each in book if each[0] == "told" and each[1:3] == (row[1], other)])
            there = any(each[0] == "had" and each[1] == (one, row[1]) for each in far)
            same = there if word in ("good", "rough") else not there
            rows.append((row[1], word, "open" if word == "unsure" else "same" if same else "apart"))
    return rows


class TestStories(unittest.TestCase):
    def assert_word(self, words, due, verdict_had, verdict_not):
        book = [kept(4)] + [told(4, word) for word in words]
        self.assertEqual(stories("ann", "bo", book, [had(4)]), [(4, due, verdict_had)])
        self.assertEqual(stories("ann", "bo", book, []), [(4, due, verdict_not)])

    def test_no_rows(self):
        self.assertEqual(stories("ann", "bo", [], []), [])
        self.assertEqual(stories("ann", "bo", [], [had(0)]), [])
        self.assertEqual(stories("ann", "bo", [told(0, "good")], [had(0)]), [])
        self.assertEqual(stories("ann", "bo", [kept(0, "cy")], []), [])

    def test_one_row(self):
        self.assert_word([], "waiting", "apart", "same")
        self.assert_word(["good"], "good", "same", "apart")
        self.assert_word(["rough"], "rough", "same", "apart")
        self.assert_word(["refused"], "refused", "apart", "same")
        self.assert_word(["unsent"], "unsent", "apart", "same")
        self.assert_word(["unsure"], "unsure", "open", "open")

    def test_told_more_than_once(self):
        for words in (["unsent", "good"], ["unsure", "good"], ["refused", "good"], ["unsure", "unsent", "good"]):
            self.assert_word(words, "good", "same", "apart")
        self.assert_word(["good", "refused"], "refused", "apart", "same")
        self.assert_word(["unsure", "refused"], "refused", "apart", "same")
        self.assert_word(["unsent", "unsure"], "unsure", "open", "open")
        self.assert_word(["good", "unsure"], "unsure", "open", "open")

    def test_unsent_behind_unsure(self):
        self.assert_word(["unsure", "unsent"], "unsure", "open", "open")
        self.assert_word(["unsure", "unsent", "unsent"], "unsure", "open", "open")
        self.assert_word(["unsent", "unsure"] + ["unsent"] * 5, "unsure", "open", "open")
        self.assert_word(["unsent", "unsent"], "unsent", "apart", "same")
        self.assert_word(["good", "unsent"], "unsent", "apart", "same")
        self.assert_word(["unsure", "good", "unsent"], "unsent", "apart", "same")
        self.assert_word(["unsure", "unsent", "refused", "unsent"], "unsent", "apart", "same")

    def test_all_short_tellings(self):
        for many in range(5):
            for words in itertools.product(WORDS, repeat=many):
                book = [kept(4)] + [told(4, word) for word in words]
                for far in ([], [had(4)]):
                    self.assertEqual(stories("ann", "bo", book, far), due_stories("ann", "bo", book, far))

    def test_several_rows_in_the_order_of_the_book(self):
        book = [kept(3), kept(0), told(0, "good"), kept(1, "bo", ("cy", "di")), told(1, "unsure"), told(3, "refused")]
        due = [(3, "refused", "same"), (0, "good", "apart"), (1, "unsure", "open")]
        self.assertEqual(stories("ann", "bo", book, [had(1, "ann", (0, 3))]), due)

    def test_rows_of_other_machines_between(self):
        book = [
            kept(0, "cy"), kept(0), told(0, "refused", "cy"), had(0), told(0, "good"), told(0, "unsure", "cy"),
            had(0, "bo"), kept(1, "cy"), told(0, "unsent", "cy"),
        ]
        self.assertEqual(stories("ann", "bo", book, [had(0, "cy"), had(0), had(1)]), [(0, "good", "same")])
        self.assertEqual(stories("ann", "bo", book, [had(0, "cy"), had(1), had(0, "bo")]), [(0, "good", "apart")])
        self.assertEqual(stories("ann", "cy", book, []), [(0, "unsure", "open"), (1, "waiting", "same")])

    def test_the_same_machine_twice(self):
        book = [kept(0), told(0, "good"), had(0, "bo")]
        self.assertEqual(stories("ann", "ann", book, book), [])
        book = [kept(0, "ann"), told(0, "good", "ann"), had(0, "ann"), kept(1, "ann"), kept(2, "ann"), had(2, "ann")]
        due = [(0, "good", "same"), (1, "waiting", "same"), (2, "waiting", "apart")]
        self.assertEqual(stories("ann", "ann", book, book), due)

    def test_rows_in_another_order(self):
        rows = [kept(0), told(0, "unsure"), told(0, "unsent"), kept(1), told(1, "good")]
        for book in itertools.permutations(rows):
            for far in ([had(1), had(0)], [had(0)], []):
                told_now = stories("ann", "bo", list(book), far)
                self.assertEqual(told_now, due_stories("ann", "bo", list(book), far))

    def test_rows_of_one_page_twice(self):
        book = [kept(0), kept(0), told(0, "good"), kept(0)]
        self.assertEqual(stories("ann", "bo", book, [had(0), had(0)]), [(0, "good", "same")] * 3)

    def test_drawn_books(self):
        verdicts = set()
        for seed in range(300):
            draw = patterned_draw(seed)
            books = []
            for _ in range(2):
                names = ("ann", "bo")
                rows = []
                for _ in range(draw(25)):
                    number, name = draw(4), names[draw(2)]
                    rows.append([kept(number, name), told(number, WORDS[draw(5)], name), had(number, name)][draw(3)])
                books.append(rows)
            for one, other in itertools.product(("ann", "bo"), repeat=2):
                now = stories(one, other, *books)
                self.assertEqual(now, due_stories(one, other, *books), seed)
                verdicts.update(row[2] for row in now)
        self.assertEqual(verdicts, {"same", "apart", "open"})

    def test_books_handed_in_stay_and_what_is_told_is_the_askers_own(self):
        book, far = [kept(0), told(0, "good"), kept(1)], [had(0)]
        now = stories("ann", "bo", book, far)
        self.assertIs(type(now), list)
        self.assertEqual((book, far), ([kept(0), told(0, "good"), kept(1)], [had(0)]))
        due = [(0, "good", "same"), (1, "waiting", "same")]
        book.clear()
        far.clear()
        self.assertEqual(now, due)
        book, far = [kept(0), told(0, "good"), kept(1)], [had(0)]
        now.clear()
        self.assertEqual(stories("ann", "bo", book, far), due)

    def test_of_a_house(self):
        house = House()
        for name in ("ann", "bo", "cy"):
            house.put(name, (16, 1, 2, False), 4)
        for _ in range(5):
            house.keep("ann", patterned_page(2, 16, 1), ("bo", "cy"), None)
        house.call("ann", "bo", [("come",)] * 12 + [("cut",)])
        due = [(0, "good", "same"), (1, "good", "same"), (2, "unsure", "open"), (3, "unsent", "same"),
               (4, "waiting", "same")]
        self.assertEqual(stories("ann", "bo", house.book("ann"), house.book("bo")), due)
        house.call("ann", "bo", [("cut",)])
        due[4] = (4, "unsent", "same")
        self.assertEqual(stories("ann", "bo", house.book("ann"), house.book("bo")), due)
        self.assertEqual([word for to, number, word in house.sent("ann") if to == "bo"], [row[1] for row in due])
        self.assertEqual(stories("bo", "ann", house.book("bo"), house.book("ann")), [])
        waiting = [(number, "waiting", "same") for number in range(5)]
        self.assertEqual(stories("ann", "cy", house.book("ann"), house.book("cy")), waiting)


if __name__ == "__main__":
    unittest.main()
