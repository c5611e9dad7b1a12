"""Names, keys, and the words that machines say."""

from farpage.common import is_bits, is_whole
from farpage.pieces import MOST_PIECES
from farpage.settings import is_setting

LETTERS = "abcdefghijklmnopqrstuvwxyz"
MOST_LETTERS = 8
MOST_NUMBER = 999
MOST_ENDS = 4

# Of each kind of word the parts that stand behind its first text.
WORDS = {
    "call": (),
    "can": ("setting",),
    "set": ("setting",),
    "ready": (),
    "trial": ("bits",),
    "clear": (),
    "fail": (),
    "page": ("key", "bits"),
    "piece": ("key", "many", "number", "bits"),
    "ended": ("key", "many", "ends"),
    "good": ("key",),
    "rough": ("key",),
    "bad": ("key",),
    "lacks": ("key", "numbers"),
    "busy": ("key",),
    "end": (),
    "fetch": ("name",),
}


def is_name(thing):
    """Whether any thing is a name."""
    if not isinstance(thing, str) or not 1 <= len(thing) <= MOST_LETTERS:
        return False
    return all([sign in LETTERS for sign in thing])


def is_number_to(most, thing):
    """Whether any thing is a whole number from 0 to the most."""
    return is_whole(thing) and 0 <= thing <= most


def is_key(thing):
    """Whether any thing is a key."""
    if not isinstance(thing, tuple) or len(thing) != 2:
        return False
    return is_name(thing[0]) and is_number_to(MOST_NUMBER, thing[1])


def is_ends(thing):
    """Whether any thing is a tuple of at most four unlike names."""
    if not isinstance(thing, tuple) or len(thing) > MOST_ENDS:
        return False
    return all([is_name(end) for end in thing]) and len(set(thing)) == len(thing)


def is_numbers(thing):
    """Whether any thing is a rising tuple of pieces' numbers, one at least."""
    if not isinstance(thing, tuple) or len(thing) == 0:
        return False
    if not all([is_number_to(MOST_PIECES - 1, number) for number in thing]):
        return False
    return all([thing[at - 1] < thing[at] for at in range(1, len(thing))])


def is_part(part, thing):
    """Whether any thing is such a part of a word."""
    if part == "setting":
        return is_setting(thing)
    if part == "bits":
        return is_bits(thing)
    if part == "key":
        return is_key(thing)
    if part == "many":
        return is_number_to(MOST_PIECES, thing)
    if part == "number":
        return is_number_to(MOST_PIECES - 1, thing)
    if part == "ends":
        return is_ends(thing)
    if part == "numbers":
        return is_numbers(thing)
    return is_name(thing)


def is_word(thing):
    """Whether any thing is a word that is said."""
    if not isinstance(thing, tuple) or len(thing) == 0:
        return False
    # Only a text is asked for among the kinds: what holds a list cannot be.
    if not isinstance(thing[0], str) or thing[0] not in WORDS:
        return False
    parts = WORDS[thing[0]]
    if len(thing) != 1 + len(parts):
        return False
    if not all([is_part(part, one) for part, one in zip(parts, thing[1:])]):
        return False
    # A piece's number below many asks for one piece at least, too.
    return thing[0] != "piece" or (thing[3] < thing[2] and thing[4] != "")
