"""Settings of a machine, and what two of them can agree on."""

from farpage.common import is_whole
from farpage.pages import LEAST_BREADTH, MOST_BREADTH

EVERIES = (1, 2, 4)
MOST_SPEED = 4
PARTS = 4
SPEED_BITS = 16


def is_setting(thing):
    """Whether any thing is a setting."""
    if not isinstance(thing, tuple) or len(thing) != PARTS:
        return False
    breadth, every, speed, mends = thing
    if not is_whole(breadth) or not is_whole(every) or not is_whole(speed):
        return False
    if not LEAST_BREADTH <= breadth <= MOST_BREADTH or every not in EVERIES:
        return False
    return 1 <= speed <= MOST_SPEED and isinstance(mends, bool)


def agreed(one, other):
    """The setting that two can agree on."""
    return min(one[0], other[0]), min(one[1], other[1]), min(one[2], other[2]), one[3] and other[3]


def slower(setting):
    """The setting with a speed that is one less."""
    breadth, every, speed, mends = setting
    return breadth, every, speed - 1, mends


def speed_bits(setting):
    """How many bits the setting's speed tells: of a trial, and of a row where nothing mends."""
    return SPEED_BITS * setting[2]
