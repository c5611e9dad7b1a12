"""The receiver: what it hears and answers, the pages that it had, and its store."""

from farpage.pages import MOST_ROWS
from farpage.pieces import Gathering
from farpage.settings import agreed, speed_bits
from farpage.speech import is_word
from farpage.stream import GUESSED, read_bits


class Receiver:
    """An end that hears words, answers them, and has pages."""

    def __init__(self, setting, room):
        self.setting = setting
        self.room = room
        self.pages = []
        self.answers = {}
        self.store = []
        self.let_go()

    def let_go(self):
        """What it is set to, and the pieces and bits that it keeps, are let go."""
        self.agreement = None
        self.bits_key = None
        self.bits = ""
        self.drop_pieces()

    def drop_pieces(self):
        """The pieces kept are let go."""
        self.gathered = None
        self.gathering = None

    def hears(self, thing):
        """Any thing is heard; the word with which it is answered, or None."""
        if not is_word(thing):
            return None
        if thing[0] == "call":
            self.let_go()
            return ("can", self.setting)
        if thing[0] == "end":
            self.let_go()
            return None
        if thing[0] == "set":
            return self.answer_set(thing[1])
        if self.agreement is None:
            return None
        return self.answer_when_set(thing)

    def answer_set(self, setting):
        """The answer to a set: None of a setting on which it cannot agree."""
        if agreed(self.setting, setting) != setting:
            return None
        self.agreement = setting
        return ("ready",)

    def mends(self):
        """Whether it is set to mend."""
        return self.agreement[3]

    def answer_when_set(self, word):
        """The answer to a word that is heard only where it is set."""
        if word[0] == "trial":
            return ("clear",) if word[1] == "0" * speed_bits(self.agreement) else ("fail",)
        if word[0] == "page" and not self.mends():
            self.bits_key, self.bits = word[1], word[2]
        elif word[0] == "piece" and self.mends():
            self.take_piece(word[1], word[2], word[3], word[4])
        elif word[0] == "ended":
            return self.answer_ended(word[1], word[2], word[3])
        return None

    def take_piece(self, key, many, number, bits):
        """The piece is taken; those of another key or many are let go."""
        if self.gathered != (key, many):
            self.gathered = (key, many)
            self.gathering = Gathering(many)
        self.gathering.take(number, bits)

    def answer_ended(self, key, many, ends):
        """The answer to an ended, where it is set."""
        if key in self.answers:
            return self.answers[key]
        if self.mends() == (many == 0):
            return None
        if self.mends():
            numbers = self.lacking_of(key, many)
            if numbers:
                return ("lacks", key, tuple(numbers))
        rows, met = read_bits(self.agreement[0], self.bits_of(key))
        if not met or self.are_bad(rows):
            if self.mends():
                self.drop_pieces()
            return ("bad", key)
        if len(self.store) >= self.room:
            self.print_one()
            return ("busy", key)
        return self.have(key, rows, ends)

    def lacking_of(self, key, many):
        """The numbers of the pieces that aren't kept of this key and many."""
        if self.gathered != (key, many):
            return list(range(many))
        return self.gathering.lacking()

    def bits_of(self, key):
        """The bits put together of the pieces, or those kept with this key; none where there are none."""
        if self.mends():
            return self.gathering.joined()
        return self.bits if self.bits_key == key else ""

    def are_bad(self, rows):
        """Whether the rows make no page, or too many of them are guessed."""
        if not 1 <= len(rows) <= MOST_ROWS:
            return True
        most = 0 if self.mends() else len(rows) // 4
        return len(guessed_of(rows)) > most

    def have(self, key, rows, ends):
        """The page of these rows is had; the answer that is given for it."""
        guessed = guessed_of(rows)
        answer = ("rough" if guessed else "good", key)
        self.pages.append((key, tuple([row for row, how in rows]), guessed, ends))
        self.answers[key] = answer
        self.store.append(key)
        if self.mends():
            self.drop_pieces()
        else:
            self.bits_key, self.bits = None, ""
        return answer

    def had(self):
        """All pages had, in order, each (key, page, guessed, ends)."""
        return list(self.pages)

    def held(self):
        """The keys in the store, in order."""
        return list(self.store)

    def print_one(self):
        """The page that stands longest in the store is printed; its key, None where the store is empty."""
        if not self.store:
            return None
        return self.store.pop(0)

    def lose_power(self):
        """Power goes, and comes again at once."""
        self.let_go()


def guessed_of(rows):
    """The numbers of the guessed rows, rising."""
    return tuple([number for number, (row, how) in enumerate(rows) if how == GUESSED])
