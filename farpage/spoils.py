"""Bits spoiled: turned, lost or put in."""

from farpage.common import turned


def spoiled(bits, spoils):
    """The bits with the spoils done one behind the other."""
    left = bits
    for spoil in spoils:
        left = spoiled_once(left, spoil)
    return left


def spoiled_once(bits, spoil):
    """The bits with one spoil done, as they were where there is no such place."""
    place = spoil[1]
    if spoil[0] == "put":
        # A bit may be put in at the end, too, where none is to be turned or lost.
        if 0 <= place <= len(bits):
            return bits[:place] + spoil[2] + bits[place:]
        return bits
    if not 0 <= place < len(bits):
        return bits
    instead = turned(bits[place]) if spoil[0] == "turn" else ""
    return bits[:place] + instead + bits[place + 1:]
