"""A machine of a house: its receiver, the pages that it keeps to be sent, and its book."""

from farpage.receiver import Receiver
from farpage.sender import Sender

MOST_OF_A_CALL = 4
ENDED_WORDS = ("good", "rough", "refused")


class Due:
    """A page of a machine that is due to another one, and what is told of it."""

    def __init__(self, to, number, ends):
        self.to = to
        self.number = number
        self.ends = ends
        self.word = "waiting"

    def is_due(self):
        """Whether the page is due still."""
        return self.word not in ENDED_WORDS

    def hear_outcome(self, word):
        """What a sender told of the page is taken."""
        # A page that may have been had stays unsure, however little a later call came to.
        if word != "unsent" or self.word != "unsure":
            self.word = word


class Machine:
    """A machine with its receiver, its store of pages to be sent, and its book."""

    def __init__(self, name, setting, room):
        self.name = name
        self.setting = setting
        self.receiver = Receiver(setting, room)
        self.pages = []
        self.dues = []
        self.rows = []
        self.noted = 0

    def keep_page(self, page, goals):
        """The page is kept, due as the list of goals (to, ends) tells; its number."""
        number = len(self.pages)
        self.pages.append(page)
        for to, ends in goals:
            self.dues.append(Due(to, number, ends))
            self.rows.append(("kept", number, to, ends))
        return number

    def dues_of_a_call(self, other):
        """The first pages due to the other machine, as many as one call may have."""
        # Pages are numbered as they are kept, so their numbers rise here.
        return [due for due in self.dues if due.to == other and due.is_due()][:MOST_OF_A_CALL]

    def sender_of(self, dues):
        """A sender of the pages due."""
        return Sender(self.name, self.setting, [(due.number, self.pages[due.number], due.ends) for due in dues])

    def take_outcomes(self, dues, outcomes):
        """What the sender of the pages due told is taken, and noted in the book."""
        for due, (number, word) in zip(dues, outcomes):
            due.hear_outcome(word)
            self.rows.append(("told", number, due.to, word))

    def note_had(self):
        """The pages had since the last time are noted in the book; they are told, in order."""
        news = self.receiver.had()[self.noted:]
        for key, page, guessed, ends in news:
            self.rows.append(("had", key, guessed))
        self.noted += len(news)
        return news
