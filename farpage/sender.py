"""The sender: the word that it says, how it goes on by what it hears, and what it tells of its pages."""

from farpage.pages import fit_page
from farpage.pieces import pieces_of
from farpage.settings import agreed, slower, speed_bits
from farpage.speech import is_word
from farpage.stream import page_bits

# By each step at which an answer is wanted the kinds of words that are one.
ANSWERS = {
    "call": ("can",),
    "set": ("ready",),
    "trial": ("clear", "fail"),
    "ended": ("good", "rough", "bad", "lacks", "busy"),
}
MOST_MISSES = 3
MOST_BADS = 3
MOST_LACKS = 4
MOST_BUSIES = 8


class Sender:
    """An end that calls, says its pages, and tells what became of each."""

    def __init__(self, name, setting, pages):
        self.name = name
        self.setting = setting
        self.pages = list(pages)
        self.words = ["waiting" for page in pages]
        self.agreement = setting
        self.step = "call"
        self.misses = 0
        self.place = 0
        self.take_to_hand()

    def take_to_hand(self):
        """The page at the place comes to hand: nothing is counted of it yet, and all of it is due."""
        self.parts = []
        self.due = []
        self.bads = 0
        self.lacks = 0
        self.busies = 0

    def says(self):
        """The word that it says now, None where its call is over."""
        if self.step == "over":
            return None
        if self.step == "set":
            return ("set", self.agreement)
        if self.step == "trial":
            return ("trial", "0" * speed_bits(self.agreement))
        if self.step == "page":
            return self.page_word()
        if self.step == "ended":
            return ("ended", self.key(), self.piece_count(), self.pages[self.place][2])
        return (self.step,)

    def page_word(self):
        """The word by which the first that is due of the page at hand is said."""
        number = self.due[0]
        if self.mends():
            return ("piece", self.key(), self.piece_count(), number, self.parts[number])
        return ("page", self.key(), self.parts[number])

    def mends(self):
        """Whether mending is agreed."""
        return self.agreement[3]

    def key(self):
        """The key of the page at hand."""
        return (self.name, self.pages[self.place][0])

    def piece_count(self):
        """How many pieces are told of the page at hand, 0 where it isn't said in pieces."""
        return len(self.parts) if self.mends() else 0

    def hears(self, thing):
        """Any thing is heard as the answer to the word that it says, and it goes on."""
        if self.step == "end":
            self.step = "over"
        elif self.step == "page":
            self.go_on_in_page()
        elif self.step != "over":
            self.hear_answer(thing)

    def hear_answer(self, thing):
        """It goes on by an answer; what is none is counted, and the word is said again."""
        if is_word(thing) and self.is_answer(thing):
            self.misses = 0
            self.go_on(thing)
            return
        self.misses += 1
        if self.misses == MOST_MISSES:
            self.doubt()
            self.give_up()

    def is_answer(self, word):
        """Whether the word answers the one that it says."""
        if word[0] not in ANSWERS[self.step]:
            return False
        if self.step == "ended" and word[1] != self.key():
            return False
        # Where nothing mends many is 0, so that no number is below it.
        return word[0] != "lacks" or word[2][-1] < self.piece_count()

    def go_on(self, word):
        """It goes on by an answer."""
        kind = word[0]
        if kind == "can":
            self.agreement = agreed(self.setting, word[1])
            self.step = "set"
        elif kind == "ready":
            self.step = "trial"
        elif kind == "clear":
            self.go_on_to_page()
        elif kind == "fail":
            self.go_slower()
        elif kind == "bad":
            self.go_on_by_bad()
        elif kind == "lacks":
            self.go_on_by_lacks(word[2])
        elif kind == "busy":
            self.go_on_by_busy()
        else:
            self.go_on_to_next(kind)

    def go_on_to_page(self):
        """On to what is due of the page at hand, fitted to what is agreed."""
        page = fit_page(self.pages[self.place][1], self.agreement[0])
        least = 0 if self.mends() else speed_bits(self.agreement)
        bits = page_bits(page, self.agreement[1], least)
        self.parts = pieces_of(bits) if self.mends() else [bits]
        # Nothing is marked as due of a page that comes to hand or was bad: then all of it is.
        if not self.due:
            self.due = list(range(len(self.parts)))
        self.step = "page"

    def go_on_in_page(self):
        """On to the next that is due of the page at hand, behind the last of them to ended."""
        self.due = self.due[1:]
        if not self.due:
            self.step = "ended"

    def go_on_to_next(self, kind):
        """The page at hand is told so; on to the next one, where there is one."""
        self.words[self.place] = kind
        self.place += 1
        self.take_to_hand()
        if self.place == len(self.pages):
            self.step = "end"
        elif kind == "rough":
            self.step = "trial"
        else:
            self.go_on_to_page()

    def go_on_by_bad(self):
        """All is due again, by a trial; the third time the page is refused."""
        self.bads += 1
        if self.bads == MOST_BADS:
            self.refuse()
        else:
            self.step = "trial"

    def go_on_by_lacks(self, numbers):
        """The pieces that lack are due; the fourth time by a speed less."""
        self.due = list(numbers)
        self.lacks += 1
        if self.lacks < MOST_LACKS:
            self.step = "page"
        elif self.agreement[2] == 1:
            self.refuse()
        else:
            self.go_slower()

    def go_on_by_busy(self):
        """Ended is said again, until the page was too often met by a full store."""
        self.busies += 1
        if self.busies == MOST_BUSIES:
            self.give_up()

    def go_slower(self):
        """On to set by a speed less; where there is none it gives up."""
        if self.agreement[2] == 1:
            self.give_up()
            return
        self.agreement = slower(self.agreement)
        self.lacks = 0
        self.step = "set"

    def refuse(self):
        """The page at hand is told as refused, and it gives up."""
        self.words[self.place] = "refused"
        self.give_up()

    def doubt(self):
        """The page at hand is unsure where its ended was said: it may be had, and the answer lost."""
        if self.step == "ended":
            self.words[self.place] = "unsure"

    def give_up(self):
        """On to end; what is waiting still won't be sent."""
        self.words = ["unsent" if word == "waiting" else word for word in self.words]
        self.step = "end"

    def outcomes(self):
        """What is told of each page, in order: (number, word)."""
        return [(page[0], word) for page, word in zip(self.pages, self.words)]

    def lose_power(self):
        """Power goes: the call is over."""
        self.doubt()
        self.give_up()
        self.step = "over"
