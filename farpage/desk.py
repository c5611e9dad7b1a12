"""The desk: rows of words said to a house, and its answers."""

from farpage.errors import NoName, NoSaying
from farpage.house import House
from farpage.pages import read_page, show_page
from farpage.sayings import fates_of, name_of, names_of, number_of, room_of, setting_of, want_many, words_of
from farpage.speech import MOST_NUMBER
from farpage.stories import stories

NONE = "-"


class Desk:
    """A house that is told rows of words."""

    def __init__(self):
        self.house = House()

    def say(self, row):
        """The answer to a row of words; what is none is refused."""
        words = words_of(row)
        kind, parts = words[0], words[1:]
        if kind == "machine":
            return self.say_machine(parts)
        if kind == "keep":
            return self.say_keep(parts)
        if kind == "pass":
            return self.say_pass(parts)
        if kind in ("call", "fetch"):
            return self.say_call(kind, parts)
        if kind == "page":
            return self.say_page(parts)
        if kind == "hold":
            return self.say_hold(parts)
        if kind in ("had", "sent", "print"):
            return self.say_of_one(kind, parts)
        raise NoSaying("no row begins so")

    def say_machine(self, parts):
        """A machine is put into the house."""
        want_many(parts, 6, 6)
        name, setting, room = name_of(parts[0]), setting_of(parts[1:5]), room_of(parts[5])
        self.house.put(name, setting, room)
        return "ok"

    def say_keep(self, parts):
        """A page is kept straight; its number."""
        want_many(parts, 3, None)
        name, ends = name_of(parts[0]), names_of(parts[2:])
        return str(self.house.keep(name, read_page(parts[1]), ends, None))

    def say_pass(self, parts):
        """A page is kept by another machine; its number."""
        want_many(parts, 4, None)
        name, by, ends = name_of(parts[0]), name_of(parts[1]), names_of(parts[3:])
        return str(self.house.keep(name, read_page(parts[2]), ends, by))

    def say_call(self, kind, parts):
        """One machine calls another one, or fetches from it; how many words were said."""
        want_many(parts, 2, None)
        one, other, fates = name_of(parts[0]), name_of(parts[1]), fates_of(parts[2:])
        if kind == "call":
            return str(len(self.house.call(one, other, fates)))
        return str(len(self.house.fetch(one, other, fates)))

    def say_page(self, parts):
        """A page that a machine had, shown; NoName where it has none of the key."""
        want_many(parts, 3, 3)
        name = name_of(parts[0])
        wanted = (name_of(parts[1]), number_of(parts[2], 0, MOST_NUMBER))
        for key, page, guessed, ends in self.house.had(name):
            if key == wanted:
                return show_page(page)
        raise NoName("no page of the key was had")

    def say_hold(self, parts):
        """The books of two machines held against one another."""
        want_many(parts, 2, 2)
        one, other = names_of(parts)
        told = stories(one, other, self.house.book(one), self.house.book(other))
        return row_of([f"{number}={verdict}" for number, word, verdict in told])

    def say_of_one(self, kind, parts):
        """What is told of one machine: its pages had, or sent, or the key that it prints."""
        want_many(parts, 1, 1)
        name = name_of(parts[0])
        if kind == "had":
            return row_of([show_had(key, guessed) for key, page, guessed, ends in self.house.had(name)])
        if kind == "sent":
            return row_of([f"{to}/{number}={word}" for to, number, word in self.house.sent(name)])
        key = self.house.print_one(name)
        return NONE if key is None else show_key(key)


def row_of(words):
    """The words one behind the other."""
    return " ".join(words) if words else NONE


def show_key(key):
    """The key as a text."""
    return f"{key[0]}/{key[1]}"


def show_had(key, guessed):
    """The key of a page had, behind it the numbers of its guessed rows, where there are any."""
    if not guessed:
        return show_key(key)
    return show_key(key) + ":" + ",".join([str(number) for number in guessed])
