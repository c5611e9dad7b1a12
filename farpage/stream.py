"""The bits of a page, and the rows that are read from any bits."""

from farpage.above import above_bits, read_above
from farpage.common import places_of
from farpage.errors import NoTelling
from farpage.pages import LIGHT
from farpage.runs import plain_bits, read_plain

MARK = "000000000001"
END_MARKS = 6
PLAIN_TAG = "1"
ABOVE_TAG = "0"
READ = "read"
GUESSED = "guessed"


def page_bits(page, every, least):
    """The page's bits: each so many rows one told plainly, each row of at least so many bits."""
    parts = [row_bits(page, number, every).ljust(least, "0") for number in range(len(page))]
    return "".join(parts) + (MARK + "1") * END_MARKS


def row_bits(page, number, every):
    """The mark, the tag and the telling of the page's row of the number."""
    row = page[number]
    if number % every == 0:
        return MARK + PLAIN_TAG + plain_bits(row)
    return MARK + ABOVE_TAG + above_bits(page[number - 1], row)


def mark_ends(bits):
    """How many bits there are up to each mark's end, rising."""
    # With more than eleven 0s ahead of its 1 a mark is met by the last eleven of them.
    return [place + len(MARK) for place in places_of(bits, MARK)]


def stretches(bits):
    """The stretches ahead of the page's end, and whether an end is met."""
    ends = mark_ends(bits)
    found = [bits[ends[at - 1]:ends[at]] for at in range(1, len(ends))]
    for at in range(1, len(found)):
        if is_empty(found[at - 1]) and is_empty(found[at]):
            return found[:at - 1], True
    return found, False


def is_empty(stretch):
    """Whether the stretch is a 1, then 0s and a 1."""
    return stretch[0] == "1" and "1" not in stretch[1:-1]


def read_bits(breadth, bits):
    """The rows told up to the page's end, each with whether it was read or guessed, and whether an end is met."""
    found, met = stretches(bits)
    rows = []
    # Ahead of the first row nothing was told: it is guessed as light, and no row is told by it.
    ahead = (LIGHT * breadth, GUESSED)
    for stretch in found:
        ahead = told_row(breadth, ahead, stretch)
        rows.append(ahead)
    return rows, met


def told_row(breadth, ahead, stretch):
    """The row told of the stretch, behind the one told ahead."""
    try:
        return good_row(breadth, ahead, stretch), READ
    except NoTelling:
        return ahead[0], GUESSED


def good_row(breadth, ahead, stretch):
    """The row of a good stretch; NoTelling of another one."""
    # The stretch's last 1 belongs to the mark behind the row.
    told = stretch[1:-1]
    if stretch[0] == PLAIN_TAG:
        row, many = read_plain(breadth, told)
    elif ahead[1] == READ:
        row, many = read_above(ahead[0], told)
    else:
        raise NoTelling("the row is told by a guessed one")
    if "1" in told[many:]:
        raise NoTelling("a 1 stands behind the telling")
    return row
