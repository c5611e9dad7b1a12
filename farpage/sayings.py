"""What the words of a row said to a desk mean: each refused with NoSaying where it is none."""

from farpage.errors import NoSaying
from farpage.settings import is_setting
from farpage.speech import is_name

FIGURES = "0123456789"
MOST_FIGURES = 5
MOST_ROOM = 4
MOST_FATES = 60
MOST_SPOILS = 40
MOST_PLACE = 12000
PLAIN_FATES = ("come", "lose", "cut", "whole", "down", "gone")
# By its letter what a spoil is; the place stands behind its first text.
SPOILS = {"t": ("turn",), "l": ("lose",), "z": ("put", "0"), "o": ("put", "1")}
MENDS = {"mends": True, "plain": False}


def words_of(thing):
    """The words of a row; NoSaying of what is no text and where one is empty."""
    if not isinstance(thing, str):
        raise NoSaying("a row of words is a text")
    words = thing.split(" ")
    if "" in words:
        raise NoSaying("a single blank stands between two words")
    return words


def want_many(words, least, most):
    """NoSaying where there are less words than the least or more than the most, of which None bounds nothing."""
    if len(words) < least or (most is not None and len(words) > most):
        raise NoSaying("the row has too few or too many words")


def name_of(word):
    """The name that the word is."""
    if not is_name(word):
        raise NoSaying("a name is wanted")
    return word


def names_of(words):
    """The names that the words are, a tuple."""
    return tuple([name_of(word) for word in words])


def number_of(word, least, most):
    """The number that the word tells, within the bounds of its place."""
    if not 1 <= len(word) <= MOST_FIGURES or not all([sign in FIGURES for sign in word]):
        raise NoSaying("a number of at most five figures is wanted")
    if word[0] == "0" and word != "0":
        raise NoSaying("noughts stand ahead of the number")
    number = int(word)
    if not least <= number <= most:
        raise NoSaying("the number is outside the bounds of its place")
    return number


def setting_of(words):
    """The setting that four words tell: breadth, every, speed and kind."""
    if words[3] not in MENDS:
        raise NoSaying("the kind is mends or plain")
    # The bounds of the three are the setting's own.
    numbers = [number_of(word, 0, MOST_PLACE) for word in words[:3]]
    setting = (numbers[0], numbers[1], numbers[2], MENDS[words[3]])
    if not is_setting(setting):
        raise NoSaying("there is no such setting")
    return setting


def room_of(word):
    """The room that the word tells."""
    return number_of(word, 1, MOST_ROOM)


def fates_of(words):
    """The fates that the words tell."""
    want_many(words, 0, MOST_FATES)
    return [fate_of(word) for word in words]


def fate_of(word):
    """The fate that the word tells."""
    if word in PLAIN_FATES:
        return (word,)
    parts = word.split("+")
    want_many(parts, 1, MOST_SPOILS)
    return ("spoil", [spoil_of(part) for part in parts])


def spoil_of(part):
    """The spoil that a letter and a place tell."""
    letter = part[:1]
    if letter not in SPOILS:
        raise NoSaying("no spoil has the letter")
    what = SPOILS[letter]
    return what[:1] + (number_of(part[1:], 0, MOST_PLACE),) + what[1:]
