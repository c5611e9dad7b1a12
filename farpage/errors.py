"""The refusals of the program."""


class FarError(ValueError):
    """Any refusal."""


class NoPage(FarError):
    """What was handed in shows no page."""


class NoWords(FarError):
    """There are no words by the lengths handed in."""


class NoTelling(FarError):
    """What was handed in begins with no telling of a row."""


class NoFrame(FarError):
    """What was handed in is no frame, or no stuffed bits."""


class NoPiece(FarError):
    """What was handed in is no piece of the gathering."""


class NoName(FarError):
    """A name is there already, or there is nothing of the name."""


class NoEnds(FarError):
    """A page cannot be kept for these ends."""


class NoCall(FarError):
    """There is nothing to call for, or the two ends are one."""


class NoSaying(FarError):
    """What was handed in is no row of words that a desk knows."""
