"""Rows told by the row above: the steps, the telling, and such tellings read."""

from farpage.common import first_place, is_bits
from farpage.errors import NoTelling
from farpage.pages import LIGHT, other_cell
from farpage.runs import read_by, run_tables
from farpage.words import words_by

# A plain step's two runs stand behind its word, so one word serves all plain steps.
STEPS = (
    ("near", 0), ("near", 1), ("near", -1), ("plain",), ("passed",),
    ("near", 2), ("near", -2), ("near", 3), ("near", -3),
)
LENGTHS = (1, 3, 3, 3, 5, 5, 6, 6, 6)
MOST_NEAR = 3
# The first step begins ahead of the row, so that its first cell is behind the place, too.
AHEAD = -1


def above_steps(above, row):
    """The steps in which the row is told by the row above."""
    steps = []
    place, colour = AHEAD, LIGHT
    while place < len(row):
        step = step_at(above, row, place, colour)
        steps.append(step)
        place = led_to(above, place, colour, step)
        colour = colour_behind(colour, step)
    return steps


def step_at(above, row, place, colour):
    """The step that begins at the place with the colour."""
    change = first_place(row, other_cell(colour), place + 1)
    change_above = first_change(above, place, colour)
    if first_place(above, colour, change_above + 1) < change:
        return ("passed",)
    if abs(change - change_above) <= MOST_NEAR:
        return ("near", change - change_above)
    behind = first_place(row, colour, change + 1)
    return ("plain", change - max(place, 0), behind - change)


def first_change(above, place, colour):
    """The first place behind this one at which the row above goes from the colour to the other one."""
    start = place + 1
    if place >= 0 and above[place] != colour:
        start = first_place(above, colour, start)
    return first_place(above, other_cell(colour), start)


def led_to(above, place, colour, step):
    """The place to which the step leads that begins at the place with the colour."""
    if step[0] == "plain":
        return max(place, 0) + step[1] + step[2]
    change_above = first_change(above, place, colour)
    if step[0] == "near":
        return change_above + step[1]
    return first_place(above, colour, change_above + 1)


def colour_behind(colour, step):
    """The colour to which the step leads that begins with the colour."""
    return other_cell(colour) if step[0] == "near" else colour


def above_bits(above, row):
    """The telling of the row by the row above."""
    words = words_by(list(LENGTHS))
    tables = run_tables(len(row))
    parts = []
    colour = LIGHT
    for step in above_steps(above, row):
        parts.append(step_bits(words, tables, colour, step))
        colour = colour_behind(colour, step)
    return "".join(parts)


def step_bits(words, tables, colour, step):
    """The bits of the step that begins with the colour."""
    if step[0] != "plain":
        return words[STEPS.index(step)]
    word = words[STEPS.index(("plain",))]
    return word + tables[colour][step[1]] + tables[other_cell(colour)][step[2]]


def read_above(above, thing):
    """The row whose telling by the row above begins the bits, and how many bits that has; else NoTelling."""
    if not is_bits(thing):
        raise NoTelling("a telling is read from bits")
    words = words_by(list(LENGTHS))
    tables = run_tables(len(above))
    row = ""
    many = 0
    place, colour = AHEAD, LIGHT
    while place < len(above):
        step = read_step(words, tables, colour, thing, many)
        row = row_behind(above, row, place, colour, step)
        many += len(step_bits(words, tables, colour, step))
        place = led_to(above, place, colour, step)
        colour = colour_behind(colour, step)
    return row, many


def read_step(words, tables, colour, bits, place):
    """The step with the colour whose bits begin at the place; NoTelling where there is none."""
    number = read_by(words, bits, place)
    step = STEPS[number]
    if step[0] != "plain":
        return step
    place += len(words[number])
    run = read_by(tables[colour], bits, place)
    place += len(tables[colour][run])
    return ("plain", run, read_by(tables[other_cell(colour)], bits, place))


def row_behind(above, row, place, colour, step):
    """The row's cells ahead of the place to which the step leads; NoTelling where the step isn't told there."""
    if step[0] == "plain":
        row += colour * step[1] + other_cell(colour) * step[2]
    else:
        row += colour * (led_to(above, place, colour, step) - len(row))
    # Of the cells behind these only the first one bears on the step, and it has the colour led to: so a row filled
    # up with that colour tells which step is due. One that leads beyond the row, or no further, is another one.
    full = row.ljust(len(above), colour_behind(colour, step))[:len(above)]
    if step_at(above, full, place, colour) != step:
        raise NoTelling("another step is told there")
    return row
