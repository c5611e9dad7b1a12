"""The rest of bits, by which bits that were turned are told as wrong."""

from farpage.common import turned

REST = 16
# The places at which 11000000000000101 has a 1.
TURNS = (0, 1, 14, 16)


def rest_of(bits):
    """The rest of the bits, sixteen bits."""
    left = list(bits) + ["0"] * REST
    for place in range(len(bits)):
        if left[place] == "1":
            for turn in TURNS:
                left[place + turn] = turned(left[place + turn])
    return "".join(left[len(bits):])


def sealed(bits):
    """The bits with their rest behind them."""
    return bits + rest_of(bits)


def is_sealed(bits):
    """Whether the bits are some bits, perhaps none, sealed."""
    return len(bits) >= REST and sealed(bits[:-REST]) == bits
