"""What several modules ask of any thing and of texts."""


def is_whole(thing):
    """Whether any thing is a whole number."""
    return isinstance(thing, int) and not isinstance(thing, bool)


def is_bits(thing):
    """Whether any thing is bits."""
    if not isinstance(thing, str):
        return False
    return thing.count("0") + thing.count("1") == len(thing)


def turned(bit):
    """The other bit."""
    return "0" if bit == "1" else "1"


def first_place(text, wanted, start):
    """The first place, from the start on, at which what is wanted begins; the text's end where there is none."""
    place = text.find(wanted, start)
    return len(text) if place < 0 else place


def places_of(text, wanted):
    """The places at which what is wanted begins, each behind the last sign of the one found ahead."""
    places = []
    place = text.find(wanted)
    while place >= 0:
        places.append(place)
        place = text.find(wanted, place + len(wanted))
    return places
