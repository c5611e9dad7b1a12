"""Bits cut into pieces, and pieces gathered."""

from farpage.common import is_bits, is_whole
from farpage.errors import NoPiece

MOST_PIECES = 16
STEP = 8


def pieces_of(bits):
    """The bits cut into at most sixteen pieces."""
    size = piece_size(len(bits))
    return [bits[place:place + size] for place in range(0, len(bits), size)]


def piece_size(many):
    """The least multiple of eight by which so many bits are at most sixteen pieces."""
    size = STEP
    while size * MOST_PIECES < many:
        size += STEP
    return size


class Gathering:
    """Pieces of a told number, taken in any order."""

    def __init__(self, many):
        self.many = many
        self.pieces = {}

    def take(self, number, bits):
        """The piece of the number is taken, where none is there; NoPiece of other things."""
        if not is_whole(number) or not 0 <= number < self.many:
            raise NoPiece("there is no piece of the number")
        if not is_bits(bits) or bits == "":
            raise NoPiece("a piece has one bit at least")
        if number not in self.pieces:
            self.pieces[number] = bits

    def lacking(self):
        """The numbers of which no piece is there, rising."""
        return [number for number in range(self.many) if number not in self.pieces]

    def joined(self):
        """All bits put together by the numbers; None where a piece lacks."""
        if len(self.pieces) < self.many:
            return None
        return "".join([self.pieces[number] for number in range(self.many)])
