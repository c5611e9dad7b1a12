"""The house: machines that keep pages for one another, call and fetch, and pass pages on."""

from farpage.calls import fetch_came, run_call, run_fetch
from farpage.errors import NoCall, NoEnds, NoName
from farpage.machine import Machine
from farpage.speech import MOST_ENDS


class House:
    """Machines by their names."""

    def __init__(self):
        self.machines = {}

    def put(self, name, setting, room):
        """A machine is put into the house; NoName where there is one of the name."""
        if name in self.machines:
            raise NoName("there is a machine of the name")
        self.machines[name] = Machine(name, setting, room)

    def machine_of(self, name):
        """The machine of the name; NoName where there is none."""
        if name not in self.machines:
            raise NoName("there is no machine of the name")
        return self.machines[name]

    def keep(self, name, page, ends, by):
        """The machine keeps the page for the ends, straight or by another machine; its number."""
        keeper = self.machine_of(name)
        if by is not None:
            self.machine_of(by)
        for end in ends:
            self.machine_of(end)
        if not are_ends(name, ends, by):
            raise NoEnds("the page cannot be kept for these ends")
        if by is None:
            return keeper.keep_page(page, straight(ends))
        return keeper.keep_page(page, [(by, ends)])

    def call(self, one, other, fates):
        """One machine calls another one; the words said."""
        dues = self.dues_between(one, other)
        caller = self.machines[one]
        sender = caller.sender_of(dues)
        told = run_call(sender, self.machines[other].receiver, fates)
        self.settle(caller, dues, sender, other)
        return told

    def fetch(self, one, other, fates):
        """One machine fetches from another one; the words said."""
        dues = self.dues_between(other, one)
        asked = self.machines[other]
        sender = asked.sender_of(dues)
        told = run_fetch(one, sender, self.machines[one].receiver, fates)
        if fetch_came(told):
            self.settle(asked, dues, sender, one)
        return told

    def dues_between(self, one, other):
        """The pages of the one that a call to the other has; NoName, or NoCall where there are none."""
        caller = self.machine_of(one)
        self.machine_of(other)
        # No page is kept for its own keeper, so none is due where the two are one.
        dues = caller.dues_of_a_call(other)
        if not dues:
            raise NoCall("no page is due")
        return dues

    def settle(self, caller, dues, sender, other):
        """Behind a call what was told and had is taken, and pages had are passed on."""
        caller.take_outcomes(dues, sender.outcomes())
        news = self.machines[other].note_had()
        for key, page, guessed, ends in news:
            self.pass_on(other, page, ends)

    def pass_on(self, name, page, ends):
        """The machine keeps a page that it had for the ends to pass on, where any is left."""
        left = [end for end in ends if end != name and end in self.machines]
        if left:
            self.machines[name].keep_page(page, straight(left))

    def had(self, name):
        """The pages that the machine had."""
        return self.machine_of(name).receiver.had()

    def sent(self, name):
        """What is told of the machine's pages: (to, number, word)."""
        return [(due.to, due.number, due.word) for due in self.machine_of(name).dues]

    def book(self, name):
        """The machine's book."""
        return list(self.machine_of(name).rows)

    def print_one(self, name):
        """The page that stands longest in the machine's store is printed; its key or None."""
        return self.machine_of(name).receiver.print_one()


def straight(ends):
    """To whom a page is due that is kept straight for the ends, each with no ends to pass on."""
    return [(end, ()) for end in ends]


def are_ends(name, ends, by):
    """Whether a page may be kept by the machine of the name for these ends."""
    if not 1 <= len(ends) <= MOST_ENDS or len(set(ends)) != len(ends):
        return False
    if name in ends or by in ends:
        return False
    return by != name
