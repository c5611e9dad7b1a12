"""What the tests share: refusals, odd things, draws by plain sums, and tellings and ends by the document's words."""

import unittest

from farpage import errors
from farpage.pages import fit_page
from farpage.pieces import pieces_of
from farpage.speech import is_word
from farpage.stream import page_bits, read_bits

NAMES = ("NoPage", "NoWords", "NoTelling", "NoFrame", "NoPiece", "NoName", "NoEnds", "NoCall", "NoSaying")

ROW = "..##...#"
DEEP = (((((("........",),),),),),)
# Things that are neither a text nor a tuple of rows.
NO_TEXTS = [
    0, 1, 8, -8, 10 ** 30 - 1, 1 - 10 ** 30, True, False, None,
    [], (), [ROW], [ROW, ROW], list(ROW), tuple(ROW), [[ROW]], ((ROW,),), ((ROW, ROW), (ROW, ROW)), DEEP,
    (0,), (True,), (None,), (8,) * 8, [None] * 300, (None,) * 299, ([ROW],), ([],), ((),), ("",),
]

# The words of promise 7 written out, ends first, then makers.
LIGHT_WORDS = (
    "011001 1111 1110 1101 1100 1011 10001 10000 01111 01110 "
    "011000 010111 010110 010101 010100 010011 1010 01101 010010 1001"
).split()
DARK_WORDS = (
    "0011011 11 101 100 0111 0110 01011 01010 01001 010001 "
    "010000 001111 0011010 0011001 0011000 0010111 001110 0010110 0010101 0010100"
).split()
RUN_WORDS = {".": LIGHT_WORDS, "#": DARK_WORDS}
# The words of promise 11 written out.
STEP_WORDS = {
    ("near", 0): "1", ("near", 1): "011", ("near", -1): "010", "plain": "001", ("passed",): "00011",
    ("near", 2): "00010", ("near", -2): "000011", ("near", 3): "000010", ("near", -3): "000001",
}


class RefusalCase(unittest.TestCase):
    def assert_refused(self, due, function, *arguments):
        """The call is refused with the error due, which is caught as FarError and ValueError and is no other one."""
        for caught in (due, errors.FarError, ValueError):
            with self.assertRaises(caught, msg=arguments) as held:
                function(*arguments)
        for name in NAMES:
            other = getattr(errors, name)
            self.assertEqual(isinstance(held.exception, other), other is due, name)


def odd_signs(right):
    """All signs of which a text may be, but the right ones."""
    return [sign for sign in map(chr, range(ord(" "), ord("~") + 1)) if sign not in right + "%"]


def patterned_numbers(many, seed):
    """Numbers from a plain sum, so that tests need no chance."""
    numbers = []
    worth = seed * 7919 + 12345
    for _ in range(many):
        worth = (worth * 1103515245 + 12345) & 0x7FFFFFFF
        numbers.append(worth >> 16)
    return numbers


def patterned_row(breadth, seed):
    return "".join("#" if number & 3 == 0 else "." for number in patterned_numbers(breadth, seed))


def patterned_page(rows, breadth, seed):
    return tuple(patterned_row(breadth, seed * 100 + number) for number in range(rows))


def patterned_bits(many, seed):
    return "".join("01"[number & 1] for number in patterned_numbers(many, seed))


def patterned_spoils(many, below, seed):
    spoils = []
    for number in patterned_numbers(many, seed):
        place = number // 4 % below
        spoils.append([("turn", place), ("lose", place), ("put", place, "0"), ("put", place, "1")][number % 4])
    return spoils


def drifting_page(rows, breadth, seed):
    """A page whose rows are near to those above them, so that all kinds of steps are in it."""
    page = [patterned_row(breadth, seed)]
    for number in patterned_numbers(rows - 1, seed):
        row = page[-1]
        slid = ("." * 3 + row + "." * 3)[number % 7:][:breadth]
        place = number // 7 % breadth
        page.append(slid[:place] + "#.#.."[number % 5] + slid[place + 1:])
    return tuple(page)


def other_colour(cell):
    return {".": "#", "#": "."}[cell]


def due_run(cell, run):
    """The bits of a run, by the words written out."""
    words = RUN_WORDS[cell]
    return words[run] if run < 16 else words[15 + run // 16] + words[run % 16]


def due_runs(row):
    """The runs of a row, by the words of promise 8, counted cell by cell."""
    runs, colour = [0], "."
    for cell in row:
        if cell != colour:
            runs.append(0)
            colour = cell
        runs[-1] += 1
    return runs


def due_plain(row):
    return "".join(due_run(".#"[number % 2], run) for number, run in enumerate(due_runs(row)))


def due_steps(above, row):
    """The steps by the words of promise 10, place by place, each with the colour with which it begins."""
    many = len(row)
    steps = []
    place, colour = -1, "."
    while place < many:
        behind = [at for at in range(many) if at > place]
        first = min([at for at in behind if row[at] != colour] + [many])
        second = min([at for at in behind if above[at] != colour and ("." + above)[at] == colour] + [many])
        third = min([at for at in range(second + 1, many) if above[at] == colour] + [many])
        if third < first:
            steps.append((("passed",), colour))
            place = third
        elif first - second in (-3, -2, -1, 0, 1, 2, 3):
            steps.append((("near", first - second), colour))
            place, colour = first, other_colour(colour)
        else:
            fourth = min([at for at in range(first + 1, many) if row[at] == colour] + [many])
            steps.append((("plain", first - max(place, 0), fourth - first), colour))
            place = fourth
    return steps


def due_step_bits(step, colour):
    if step[0] == "plain":
        return STEP_WORDS["plain"] + due_run(colour, step[1]) + due_run(other_colour(colour), step[2])
    return STEP_WORDS[step]


def due_above(above, row):
    return "".join(due_step_bits(step, colour) for step, colour in due_steps(above, row))


def all_rows(breadth):
    for number in range(2 ** breadth):
        yield format(number, "b").zfill(breadth).replace("0", ".").replace("1", "#")


def all_bits(most):
    """All bits of at most so many signs."""
    yield ""
    for many in range(1, most + 1):
        for number in range(2 ** many):
            yield format(number, "b").zfill(many)


def patterned_draw(seed):
    """A function that tells the next number below a bound, from a plain sum."""
    worth = [seed * 7919 + 12345]

    def draw(below):
        worth[0] = (worth[0] * 1103515245 + 12345) & 0x7FFFFFFF
        return (worth[0] >> 8) % below

    return draw


class DueReceiver:
    """A receiver by the words of promises 23 to 25, written straight down."""

    def __init__(self, setting, room):
        self.setting, self.room = setting, room
        self.pages, self.store = [], []
        self.lose_power()

    def lose_power(self):
        self.set_to, self.pieces, self.bits = None, {}, {}

    def had(self):
        return list(self.pages)

    def held(self):
        return list(self.store)

    def print_one(self):
        return self.store.pop(0) if self.store else None

    def hears(self, thing):
        kind = thing[0] if is_word(thing) else None
        if kind in ("call", "end"):
            self.lose_power()
            return ("can", self.setting) if kind == "call" else None
        if kind == "set":
            pairs = list(zip(thing[1][:3], self.setting[:3]))
            if any(one > own for one, own in pairs) or (thing[1][3] and not self.setting[3]):
                return None
            self.set_to = thing[1]
            return ("ready",)
        if self.set_to is None:
            return None
        if kind == "trial":
            return ("clear",) if thing[1] == "0" * 16 * self.set_to[2] else ("fail",)
        if kind == "page" and not self.set_to[3]:
            self.bits = {thing[1]: thing[2]}
        if kind == "piece" and self.set_to[3]:
            self.pieces = {place: bits for place, bits in self.pieces.items() if place[:2] == thing[1:3]}
            self.pieces.setdefault(thing[1:4], thing[4])
        return self.ended(*thing[1:]) if kind == "ended" else None

    def ended(self, key, many, ends):
        for one, page, guessed, told in self.pages:
            if one == key:
                return ("rough" if guessed else "good", key)
        mends = self.set_to[3]
        if (mends and many == 0) or (not mends and many != 0):
            return None
        lacking = tuple(number for number in range(many) if (key, many, number) not in self.pieces)
        if mends and lacking:
            return ("lacks", key, lacking)
        bits = "".join(self.pieces[key, many, number] for number in range(many)) if mends else self.bits.get(key, "")
        rows, met = read_bits(self.set_to[0], bits)
        guessed = tuple(number for number, row in enumerate(rows) if row[1] == "guessed")
        if not met or not rows or len(rows) > 24 or len(guessed) > (0 if mends else len(rows) // 4):
            self.pieces = {} if mends else self.pieces
            return ("bad", key)
        if len(self.store) == self.room:
            del self.store[0]
            return ("busy", key)
        self.pages.append((key, tuple(row[0] for row in rows), guessed, ends))
        self.store.append(key)
        return ("rough" if guessed else "good", key)


class GivesUp(Exception):
    pass


class DueSender:
    """A sender by the words of promises 26 and 27, written as one talk from the call to the end."""

    def __init__(self, name, setting, pages):
        self.name, self.setting, self.pages = name, setting, list(pages)
        self.told = ["waiting"] * len(pages)
        self.hand = 0
        self.talk = self.talking()
        self.word = next(self.talk)

    def says(self):
        return self.word

    def outcomes(self):
        return [(page[0], told) for page, told in zip(self.pages, self.told)]

    def hears(self, thing):
        if self.word is not None:
            self.word = self.talk.send(thing)

    def lose_power(self):
        if self.word is not None and self.word[0] == "ended":
            self.told[self.hand] = "unsure"
        self.leave()
        self.word = None

    def leave(self):
        self.told = ["unsent" if told == "waiting" else told for told in self.told]

    def talking(self):
        try:
            yield from self.all_pages()
        except GivesUp:
            self.leave()
        yield ("end",)
        yield None

    def asked(self, word, kinds, key=None, many=0):
        """The first answer to the word, that is said three times at most."""
        for _ in range(3):
            heard = yield word
            if not is_word(heard) or heard[0] not in kinds or (key is not None and heard[1] != key):
                continue
            if heard[0] == "lacks" and any(number >= many for number in heard[2]):
                continue
            return heard
        if word[0] == "ended":
            self.told[self.hand] = "unsure"
        raise GivesUp

    def all_pages(self):
        heard = yield from self.asked(("call",), ("can",))
        pairs = list(zip(self.setting[:3], heard[1][:3]))
        self.breadth, self.every, self.speed = (min(pair) for pair in pairs)
        self.mends = self.setting[3] and heard[1][3]
        step = "set"
        for self.hand, (number, page, ends) in enumerate(self.pages):
            self.bads = self.lacks = self.busies = 0
            self.due = None
            told = None
            while told is None:
                yield from self.made_ready(step)
                yield from self.one_page((self.name, number), page)
                told, step = yield from self.one_end((self.name, number), page, ends)
            self.told[self.hand] = told

    def slower(self):
        if self.speed == 1:
            raise GivesUp
        self.speed -= 1
        self.lacks = 0

    def made_ready(self, step):
        while step != "page":
            if step == "set":
                setting = (self.breadth, self.every, self.speed, self.mends)
                yield from self.asked(("set", setting), ("ready",))
            heard = yield from self.asked(("trial", "0" * 16 * self.speed), ("clear", "fail"))
            step = "page"
            if heard[0] == "fail":
                self.slower()
                step = "set"

    def pieces(self, page):
        return pieces_of(page_bits(fit_page(page, self.breadth), self.every, 0))

    def one_page(self, key, page):
        if not self.mends:
            yield ("page", key, page_bits(fit_page(page, self.breadth), self.every, 16 * self.speed))
            return
        pieces = self.pieces(page)
        for number, bits in enumerate(pieces):
            if self.due is None or number in self.due:
                yield ("piece", key, len(pieces), number, bits)

    def one_end(self, key, page, ends):
        """What is told of the page, None where it is due still, and the step with which it goes on."""
        many = len(self.pieces(page)) if self.mends else 0
        while True:
            kinds = ("good", "rough", "bad", "lacks", "busy")
            heard = yield from self.asked(("ended", key, many, ends), kinds, key, many)
            if heard[0] in ("good", "rough"):
                return heard[0], "trial" if heard[0] == "rough" else "page"
            if heard[0] == "bad":
                self.bads += 1
                self.due = None
                if self.bads == 3:
                    self.told[self.hand] = "refused"
                    raise GivesUp
                return None, "trial"
            if heard[0] == "lacks":
                self.lacks += 1
                self.due = heard[2]
                if self.lacks < 4:
                    return None, "page"
                if self.speed == 1:
                    self.told[self.hand] = "refused"
                self.slower()
                return None, "set"
            self.busies += 1
            if self.busies == 8:
                raise GivesUp


def drawn_fates(draw, many, calm):
    """So many fates, of which the more come the more calm there is."""
    fates = []
    for _ in range(many):
        spoil = ("spoil", patterned_spoils(1 + draw(3), 200, draw(1000)))
        power = [("down",), ("gone",), ("come",)][draw(3)]
        # A wire that is cut for long tells little, so that a cut is rare.
        cut = ("cut",) if draw(3) == 0 else ("lose",)
        kinds = [cut, ("whole",), ("lose",), ("lose",), ("lose",), spoil, spoil, power]
        at = draw(9 + 6 * calm)
        fates.append(kinds[at] if at < len(kinds) else ("come",))
    return fates
