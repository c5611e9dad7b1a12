"""Rows and pages of dark and light cells: told, shown, read and fitted."""

from farpage.errors import NoPage

LIGHT = "."
DARK = "#"
LEAST_BREADTH = 8
MOST_BREADTH = 64
MOST_ROWS = 24


def other_cell(cell):
    """The cell of the other colour."""
    return DARK if cell == LIGHT else LIGHT


def is_row(thing):
    """Whether any thing is a row."""
    if not isinstance(thing, str):
        return False
    if not LEAST_BREADTH <= len(thing) <= MOST_BREADTH:
        return False
    return all([cell in (LIGHT, DARK) for cell in thing])


def is_page(thing):
    """Whether any thing is a page."""
    if not isinstance(thing, tuple):
        return False
    if not 1 <= len(thing) <= MOST_ROWS:
        return False
    if not all([is_row(row) for row in thing]):
        return False
    return all([len(row) == len(thing[0]) for row in thing])


def show_page(page):
    """The page as a text."""
    return "/".join(page)


def read_page(thing):
    """The page that a text shows; of any other thing NoPage."""
    if not isinstance(thing, str):
        raise NoPage("a page is read from a text")
    page = tuple(thing.split("/"))
    if not is_page(page):
        raise NoPage("the text shows no page")
    return page


def fit_row(row, breadth):
    """The row, fitted to the breadth."""
    if len(row) <= breadth:
        return row.ljust(breadth, LIGHT)
    return "".join([narrowed_cell(row, breadth, place) for place in range(breadth)])


def narrowed_cell(row, breadth, place):
    """The cell at the place of a row that is fitted to a lesser breadth."""
    first = place * len(row) // breadth
    behind = (place + 1) * len(row) // breadth
    return DARK if DARK in row[first:behind] else LIGHT


def fit_page(page, breadth):
    """The page, its rows fitted to the breadth."""
    return tuple([fit_row(row, breadth) for row in page])
