"""The runs of a row, its plain telling, and plain tellings read."""

from farpage.common import first_place, is_bits
from farpage.errors import NoTelling
from farpage.pages import DARK, LIGHT, other_cell
from farpage.words import colour_words, run_by


def runs_of(row):
    """How many cells of one colour stand together, from the left, light first."""
    runs = []
    cell = LIGHT
    place = 0
    while place < len(row):
        behind = first_place(row, other_cell(cell), place)
        runs.append(behind - place)
        place = behind
        cell = other_cell(cell)
    return runs


def plain_bits(row):
    """The plain telling of the row."""
    words = {LIGHT: colour_words(LIGHT), DARK: colour_words(DARK)}
    parts = []
    cell = LIGHT
    for run in runs_of(row):
        parts.append(run_by(words[cell], run))
        cell = other_cell(cell)
    return "".join(parts)


def run_tables(most):
    """Of each colour the bits of all runs, from 0 to the most."""
    return {LIGHT: run_table(LIGHT, most), DARK: run_table(DARK, most)}


def run_table(cell, most):
    """The bits of the cell's runs, from 0 to the most, each at its own place."""
    words = colour_words(cell)
    return [run_by(words, run) for run in range(most + 1)]


def read_by(table, bits, place):
    """The number, in the table, of what the bits tell from the place on; NoTelling where it is nothing of it."""
    # In the tables nothing begins another thing, so the first one met is the only one.
    for number, told in enumerate(table):
        if bits.startswith(told, place):
            return number
    raise NoTelling("nothing of the table is told there")


def read_plain(breadth, thing):
    """The row of the breadth whose plain telling begins the bits, and how many bits that has; else NoTelling."""
    if not is_bits(thing):
        raise NoTelling("a telling is read from bits")
    tables = run_tables(breadth)
    row = ""
    many = 0
    cell = LIGHT
    while len(row) < breadth:
        run = read_by(tables[cell], thing, many)
        if run == 0 and many > 0:
            raise NoTelling("only the first run may be 0")
        if len(row) + run > breadth:
            raise NoTelling("the runs go beyond the breadth")
        row += cell * run
        many += len(tables[cell][run])
        cell = other_cell(cell)
    return row, many
