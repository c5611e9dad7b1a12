"""Promises 1 to 3 over the whole: houses of machines with drawn deeds and fates."""

import unittest

from farpage.errors import NoCall
from farpage.house import House
from farpage.pages import fit_page
from farpage.stories import stories
from tests.helper import drawn_fates, drifting_page, patterned_draw, patterned_page

NAMES = ("ann", "bo", "cy", "di")
POWER = (("down",), ("gone",))


class DrawnHouse:
    """A house, and what was done in it, noted beside it."""

    def __init__(self, seed):
        self.draw = patterned_draw(seed)
        self.house = House()
        self.settings = {}
        self.pages = {}
        self.told = {}
        self.power = 1 + self.draw(4)
        for name in NAMES:
            mends = self.draw(3) > 0
            self.settings[name] = ((8, 12, 16)[self.draw(3)], (1, 2, 4)[self.draw(3)], 1 + self.draw(4), mends)
            self.house.put(name, self.settings[name], 1 + self.draw(3))

    def two(self):
        one = self.draw(4)
        return NAMES[one], NAMES[(one + 1 + self.draw(3)) % 4]

    def keep(self):
        """A page is kept, straight or by another machine."""
        one, other = self.two()
        make = patterned_page if self.draw(2) else drifting_page
        page = make(1 + self.draw(6), 8 + self.draw(12), self.draw(100))
        ends = tuple(name for name in NAMES if name not in (one, other) and self.draw(2)) or None
        if self.draw(2) and ends:
            number = self.house.keep(one, page, ends, other)
        else:
            number = self.house.keep(one, page, (other,), None)
        self.pages[one, number] = page

    def fates(self):
        fates = drawn_fates(self.draw, self.draw(61), 1 + self.draw(6))
        return fates if self.draw(self.power) else [("come",) if fate in POWER else fate for fate in fates]

    def call(self):
        """Of a call or a fetch its ends, fates, words and the rows that the sender told; None where there is none."""
        one, other = self.two()
        fates = self.fates()
        ahead = len(self.house.book(one))
        try:
            if self.draw(3):
                words = self.house.call(one, other, fates)
            else:
                words = self.house.fetch(other, one, fates)
        except NoCall:
            return None
        rows = [row for row in self.house.book(one)[ahead:] if row[0] == "told"]
        for kind, number, to, word in rows:
            self.told.setdefault((one, number, to), []).append(word)
        self.note_passed(other)
        return one, other, fates, words, rows

    def note_passed(self, name):
        """The pages that the machine keeps to pass on are noted, in the order in which it had them."""
        passed = [page for key, page, guessed, ends in self.house.had(name) if ends]
        numbers = sorted({number for to, number, word in self.house.sent(name)})
        due = [number for number in numbers if (name, number) not in self.pages]
        for number, page in zip(due, passed[len(passed) - len(due):]):
            self.pages[name, number] = page


class TestTheWhole(unittest.TestCase):
    def due_page(self, drawn, one, number, other):
        return fit_page(drawn.pages[one, number], min(drawn.settings[one][0], drawn.settings[other][0]))

    def check_call(self, drawn, one, other, fates, words, rows):
        self.assertLessEqual(sum(1 for who, word, heard in words if who == 0), 1000)
        self.assertLessEqual([word for kind, number, to, word in rows].count("unsure"), 1)
        had = {key: page for key, page, guessed, ends in drawn.house.had(other)}
        for kind, number, to, word in rows:
            self.assertEqual(to, other)
            ahead = drawn.told[one, number, other]
            if word in ("good", "rough"):
                self.assertIn((one, number), had)
                if drawn.settings[one][3] and drawn.settings[other][3]:
                    self.assertEqual(had[one, number], self.due_page(drawn, one, number, other))
            elif word in ("refused", "unsent") and "unsure" not in ahead:
                self.assertNotIn((one, number), had)
        if not any(fate in POWER for fate in fates):
            self.check_pieces(words)

    def check_pieces(self, words):
        come = []
        for who, word, heard in words:
            if word[0] == "piece":
                self.assertNotIn(word[1:4], come)
                if heard is not None:
                    come.append(word[1:4])

    def check_books(self, drawn):
        house = drawn.house
        verdicts = []
        for one in NAMES:
            keys = [key for key, page, guessed, ends in house.had(one)]
            self.assertEqual(len(keys), len(set(keys)))
            noted = [row[1:] for row in house.book(one) if row[0] == "had"]
            self.assertEqual(noted, [(key, guessed) for key, page, guessed, ends in house.had(one)])
            for other in NAMES:
                told = stories(one, other, house.book(one), house.book(other))
                sent = [(number, word) for to, number, word in house.sent(one) if to == other]
                self.assertEqual([(number, word) for number, word, verdict in told], sent)
                for number, word, verdict in told:
                    self.assertEqual(verdict, "open" if word == "unsure" else "same")
                    verdicts.append(verdict)
        return verdicts

    def test_drawn_houses(self):
        words, verdicts, calls, again = set(), set(), 0, 0
        for seed in range(300):
            drawn = DrawnHouse(seed)
            for _ in range(60):
                if drawn.draw(2) == 0:
                    drawn.keep()
                elif drawn.draw(12) == 0:
                    drawn.house.print_one(NAMES[drawn.draw(4)])
                else:
                    done = drawn.call()
                    if done is not None:
                        self.check_call(drawn, *done)
                        calls += 1
                        words.update(row[3] for row in done[4])
            verdicts.update(self.check_books(drawn))
            again += sum(told[:2] == ["unsure", "good"] for told in drawn.told.values())
        self.assertEqual(words, {"good", "rough", "refused", "unsure", "unsent"})
        self.assertEqual(verdicts, {"same", "open"})
        self.assertGreater(calls, 4000)
        self.assertGreater(again, 50)

    def test_the_same_deeds_lead_to_the_same_tellings(self):
        told = []
        for _ in range(2):
            drawn = DrawnHouse(77)
            for _ in range(30):
                drawn.keep()
                told.append(drawn.call())
            told.append([(drawn.house.had(name), drawn.house.sent(name), drawn.house.book(name)) for name in NAMES])
        self.assertEqual(told[:31], told[31:])


if __name__ == "__main__":
    unittest.main()
