"""The wire: a call of a sender and a receiver, and a fetch, by the fates of their words."""

from farpage.spoils import spoiled

SENDER = 0
RECEIVER = 1
MOST_FETCHES = 3


class Wire:
    """What carries words from one end to the other, each by its fate, and tells of them."""

    def __init__(self, fates):
        self.fates = list(fates)
        self.used = 0
        self.is_cut = False
        self.told = []

    def next_fate(self):
        """The fate of the word that is said now; behind all fates words come."""
        if self.used == len(self.fates):
            return ("come",)
        self.used += 1
        return self.fates[self.used - 1]

    def carry(self, who, word, speaker, hearer):
        """The word as it is heard, None where it is lost; power goes by its fate."""
        fate = self.next_fate()
        if fate[0] == "gone":
            speaker.lose_power()
        elif fate[0] == "down":
            hearer.lose_power()
        elif fate[0] in ("cut", "whole"):
            self.is_cut = fate[0] == "cut"
        heard = None if self.is_cut else heard_by(fate, word)
        self.told.append((who, word, heard))
        return heard


def heard_by(fate, word):
    """The word as it is heard by a wire that isn't cut, None where it is lost."""
    if fate[0] in ("lose", "down"):
        return None
    if fate[0] != "spoil":
        return word
    if word[0] not in ("trial", "page"):
        return None
    return word[:-1] + (spoiled(word[-1], fate[1]),)


def run_call(sender, receiver, fates):
    """A call until the sender's is over; the words said, in order: (who, word, heard)."""
    wire = Wire(fates)
    carry_call(wire, sender, receiver)
    return wire.told


def carry_call(wire, sender, receiver):
    """All words of a call are carried by the wire."""
    while (word := sender.says()) is not None:
        sender.hears(carry_turn(wire, word, sender, receiver))


def carry_turn(wire, word, sender, receiver):
    """What comes to the sender for its word, None where nothing does."""
    heard = wire.carry(SENDER, word, sender, receiver)
    if heard is None:
        return None
    answer = receiver.hears(heard)
    if answer is None:
        return None
    return wire.carry(RECEIVER, answer, receiver, sender)


def run_fetch(name, sender, receiver, fates):
    """A fetch by the receiver of the name, and the call where it comes; the words said, as of a call."""
    wire = Wire(fates)
    for attempt in range(MOST_FETCHES):
        if wire.carry(RECEIVER, ("fetch", name), receiver, sender) is not None:
            carry_call(wire, sender, receiver)
            break
    return wire.told


def fetch_came(told):
    """Whether a fetch came, by what is told of it."""
    return any([word[0] == "fetch" and heard is not None for who, word, heard in told])
