"""Words of bits that are made by their lengths, and the bits of a run of cells."""

from farpage.errors import NoWords

ENDS = 16
MAKERS = 4

# The ends' lengths stand first, so that an end is its own place among the words.
LENGTHS = {
    ".": (6, 4, 4, 4, 4, 4, 5, 5, 5, 5, 6, 6, 6, 6, 6, 6, 4, 5, 6, 4),
    "#": (7, 2, 3, 3, 4, 4, 5, 5, 5, 6, 6, 6, 7, 7, 7, 7, 6, 7, 7, 7),
}


def words_by(lengths):
    """The words by the lengths, in their order; NoWords where there are none."""
    words = [""] * len(lengths)
    ahead = None
    for place in making_order(lengths):
        begin = "" if ahead is None else one_less(ahead)
        ahead = begin.ljust(lengths[place], "1")
        words[place] = ahead
    return words


def making_order(lengths):
    """The places of the lengths, in the order in which their words are made."""
    # Sorting leaves equal lengths as they stand: of these the first comes first.
    return sorted(range(len(lengths)), key=lambda place: lengths[place])


def one_less(word):
    """The word as a number by twos, less 1, with as many signs."""
    last = word.rfind("1")
    if last < 0:
        raise NoWords("no word is left for a further length")
    return word[:last] + "0" + "1" * (len(word) - last - 1)


def colour_words(cell):
    """The twenty words of the cell's colour: the ends, then the makers."""
    return words_by(list(LENGTHS[cell]))


def run_bits(cell, run):
    """The bits of a run of so many cells of the cell's colour."""
    return run_by(colour_words(cell), run)


def run_by(words, run):
    """The bits of a run, by the twenty words of its colour."""
    if run < ENDS:
        return words[run]
    maker = min(run // ENDS, MAKERS)
    # Within the bounds an end is left; a longer run takes further makers, so that none fails.
    return words[ENDS + maker - 1] + run_by(words, run - maker * ENDS)
