"""What the tests share: refusals, odd things, rows and bits by plain sums, and tellings by the document's words."""

import unittest

from farpage import errors

NAMES = ("NoPage", "NoWords", "NoTelling", "NoFrame", "NoPiece", "NoName", "NoEnds", "NoCall", "NoSaying")

ROW = "..##...#"
DEEP = (((((("........",),),),),),)
# Things that are neither a text nor a tuple of rows.
NO_TEXTS = [
    0, 1, 8, -8, 10 ** 30 - 1, 1 - 10 ** 30, True, False, None,
    [], (), [ROW], [ROW, ROW], list(ROW), tuple(ROW), [[ROW]], ((ROW,),), ((ROW, ROW), (ROW, ROW)), DEEP,
    (0,), (True,), (None,), (8,) * 8, [None] * 300, (None,) * 299, ([ROW],), ([],), ((),), ("",),
]

# The words of promise 7 written out, ends first, then makers.
LIGHT_WORDS = (
    "011001 1111 1110 1101 1100 1011 10001 10000 01111 01110 "
    "011000 010111 010110 010101 010100 010011 1010 01101 010010 1001"
).split()
DARK_WORDS = (
    "0011011 11 101 100 0111 0110 01011 01010 01001 010001 "
    "010000 001111 0011010 0011001 0011000 0010111 001110 0010110 0010101 0010100"
).split()
RUN_WORDS = {".": LIGHT_WORDS, "#": DARK_WORDS}
# The words of promise 11 written out.
STEP_WORDS = {
    ("near", 0): "1", ("near", 1): "011", ("near", -1): "010", "plain": "001", ("passed",): "00011",
    ("near", 2): "00010", ("near", -2): "000011", ("near", 3): "000010", ("near", -3): "000001",
}


class RefusalCase(unittest.TestCase):
    def assert_refused(self, due, function, *arguments):
        """The call is refused with the error due, which is caught as FarError and ValueError and is no other one."""
        for caught in (due, errors.FarError, ValueError):
            with self.assertRaises(caught, msg=arguments) as held:
                function(*arguments)
        for name in NAMES:
            other = getattr(errors, name)
            self.assertEqual(isinstance(held.exception, other), other is due, name)


def odd_signs(right):
    """All signs of which a text may be, but the right ones."""
    return [sign for sign in map(chr, range(ord(" "), ord("~") + 1)) if sign not in right + "%"]


def patterned_numbers(many, seed):
    """Numbers from a plain sum, so that tests need no chance."""
    numbers = []
    worth = seed * 7919 + 12345
    for _ in range(many):
        worth = (worth * 1103515245 + 12345) & 0x7FFFFFFF
        numbers.append(worth >> 16)
    return numbers


def patterned_row(breadth, seed):
    return "".join("#" if number & 3 == 0 else "." for number in patterned_numbers(breadth, seed))


def patterned_page(rows, breadth, seed):
    return tuple(patterned_row(breadth, seed * 100 + number) for number in range(rows))


def patterned_bits(many, seed):
    return "".join("01"[number & 1] for number in patterned_numbers(many, seed))


def patterned_spoils(many, below, seed):
    spoils = []
    for number in patterned_numbers(many, seed):
        place = number // 4 % below
        spoils.append([("turn", place), ("lose", place), ("put", place, "0"), ("put", place, "1")][number % 4])
    return spoils


def drifting_page(rows, breadth, seed):
    """A page whose rows are near to those above them, so that all kinds of steps are in it."""
    page = [patterned_row(breadth, seed)]
    for number in patterned_numbers(rows - 1, seed):
        row = page[-1]
        slid = ("." * 3 + row + "." * 3)[number % 7:][:breadth]
        place = number // 7 % breadth
        page.append(slid[:place] + "#.#.."[number % 5] + slid[place + 1:])
    return tuple(page)


def other_colour(cell):
    return {".": "#", "#": "."}[cell]


def due_run(cell, run):
    """The bits of a run, by the words written out."""
    words = RUN_WORDS[cell]
    return words[run] if run < 16 else words[15 + run // 16] + words[run % 16]


def due_runs(row):
    """The runs of a row, by the words of promise 8, counted cell by cell."""
    runs, colour = [0], "."
    for cell in row:
        if cell != colour:
            runs.append(0)
            colour = cell
        runs[-1] += 1
    return runs


def due_plain(row):
    return "".join(due_run(".#"[number % 2], run) for number, run in enumerate(due_runs(row)))


def due_steps(above, row):
    """The steps by the words of promise 10, place by place, each with the colour with which it begins."""
    many = len(row)
    steps = []
    place, colour = -1, "."
    while place < many:
        behind = [at for at in range(many) if at > place]
        first = min([at for at in behind if row[at] != colour] + [many])
        second = min([at for at in behind if above[at] != colour and ("." + above)[at] == colour] + [many])
        third = min([at for at in range(second + 1, many) if above[at] == colour] + [many])
        if third < first:
            steps.append((("passed",), colour))
            place = third
        elif first - second in (-3, -2, -1, 0, 1, 2, 3):
            steps.append((("near", first - second), colour))
            place, colour = first, other_colour(colour)
        else:
            fourth = min([at for at in range(first + 1, many) if row[at] == colour] + [many])
            steps.append((("plain", first - max(place, 0), fourth - first), colour))
            place = fourth
    return steps


def due_step_bits(step, colour):
    if step[0] == "plain":
        return STEP_WORDS["plain"] + due_run(colour, step[1]) + due_run(other_colour(colour), step[2])
    return STEP_WORDS[step]


def due_above(above, row):
    return "".join(due_step_bits(step, colour) for step, colour in due_steps(above, row))


def all_rows(breadth):
    for number in range(2 ** breadth):
        yield format(number, "b").zfill(breadth).replace("0", ".").replace("1", "#")


def all_bits(most):
    """All bits of at most so many signs."""
    yield ""
    for many in range(1, most + 1):
        for number in range(2 ** many):
            yield format(number, "b").zfill(many)
