"""Frames: bits sealed, stuffed and set between two ends, and frames found in any bits."""

from farpage.common import is_bits, places_of
from farpage.errors import NoFrame
from farpage.rests import REST, is_sealed, sealed

FLAG = "01111110"
FULL = "11111"
HEAD = 8
MOST_BITS = 900


def stuffed(bits):
    """The bits with a 0 put in behind each fifth 1 of 1s that stand together."""
    return bits.replace(FULL, FULL + "0")


def unstuffed(thing):
    """The bits from which stuffed bits come; of any other thing NoFrame."""
    if not is_bits(thing):
        raise NoFrame("only bits are stuffed")
    bits = thing.replace(FULL + "0", FULL)
    # Where a 0 lacks behind five 1s, stuffing puts one in that wasn't there.
    if stuffed(bits) != thing:
        raise NoFrame("the bits are no stuffed ones")
    return bits


def frame_bits(end, number, bits):
    """The frame of the end, the number and the bits, written."""
    return FLAG + stuffed(sealed(f"{end:08b}" + f"{number:08b}" + bits)) + FLAG


def read_frame(thing):
    """The end, the number and the bits of a frame; of any other thing NoFrame."""
    if not is_bits(thing):
        raise NoFrame("a frame is read from bits")
    # The two ends share no sign, so a frame is at least twice as long as one.
    if len(thing) < 2 * len(FLAG) or not thing.startswith(FLAG) or not thing.endswith(FLAG):
        raise NoFrame("a frame has its two ends")
    told = unstuffed(thing[len(FLAG):-len(FLAG)])
    if not 0 <= len(told) - 2 * HEAD - REST <= MOST_BITS:
        raise NoFrame("a frame has an end, a number, at most 900 bits, and a rest")
    if not is_sealed(told):
        raise NoFrame("the rest is wrong")
    return number_by_twos(told[:HEAD]), number_by_twos(told[HEAD:2 * HEAD]), told[2 * HEAD:-REST]


def number_by_twos(bits):
    """The number that the bits tell by twos."""
    number = 0
    for bit in bits:
        number = 2 * number + (1 if bit == "1" else 0)
    return number


def frames_in(bits):
    """All frames in the bits that stand between two ends found one behind the other, in order."""
    frames = []
    flags = places_of(bits, FLAG)
    for at in range(1, len(flags)):
        try:
            frames.append(read_frame(bits[flags[at - 1]:flags[at] + len(FLAG)]))
        except NoFrame:
            continue
    return frames
