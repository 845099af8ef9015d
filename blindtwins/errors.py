"""The errors of the package: one base class and its direct subclasses."""


class BlindError(ValueError):
    """The base class; `what` tells what was wrong."""

    def __init__(self, what=None):
        self.what = what


class BadSize(BlindError):
    """No size, or none that is allowed here."""


class BadLot(BlindError):
    """No lot of the size that is wanted, or no word where one is wanted."""


class BadLots(BlindError):
    """No list of lots; `what` is -1 or the index of the first wrong item."""


class BadOrder(BlindError):
    """No tuple that has each place once."""


class Unlike(BlindError):
    """Two books of unlike sizes; `what` is the size of the second one."""


class TooMany(BlindError):
    """More than there may be; `what` is the greatest number that may be."""


class BadPrices(BlindError):
    """No prices of the kind that is wanted."""


class BadClutter(BlindError):
    """No clutter."""


class BadDisks(BlindError):
    """No disks; `what` is -1, an index or the number of disks."""


class BadPlace(BlindError):
    """No place, or none of the kind that is wanted."""


class BadCount(BlindError):
    """No number, or none that is allowed here."""


class BadFalls(BlindError):
    """No list of falls; `what` is -1 or the index of the first wrong item."""


class BadHands(BlindError):
    """No hands; `what` is None or the name of the first wrong hand."""


class BadSecrets(BlindError):
    """No secrets; `what` is None or the name of the first wrong secret."""


class BadGroup(BlindError):
    """No group of hands."""


class BadName(BlindError):
    """No name of a hand or a secret, or none that is allowed here."""


class BadNames(BlindError):
    """No list of names of secrets."""


class BadLook(BlindError):
    """No look."""


class BadLooks(BlindError):
    """No looks that can stand together; `what` is None, -1 or an index."""


class BadWire(BlindError):
    """No wire, or none that is allowed here."""


class BadScript(BlindError):
    """No script; `what` is -1 or the index of the first wrong deed."""


class BadBits(BlindError):
    """No list of bits, or one of too few."""


class BadDeed(BlindError):
    """No deed, or none that goes together with all looks."""


class Lost(BlindError):
    """Something is lost by a fall; `what` shows it."""


class BadHearers(BlindError):
    """No hearers; `what` is -1 or the index of the first wrong one."""


class NoWord(BlindError):
    """No word is left."""


class BadList(BlindError):
    """No list of numbers of words."""


class Fallen(BlindError):
    """A place that has fallen."""


class Standing(BlindError):
    """A place that has not fallen."""


class Blind(BlindError):
    """What is seen does not know the wish; `what` is a blind twin."""


class BadDeeds(BlindError):
    """No list of deeds; `what` is -1 or the index of the first wrong item."""


class BadLog(BlindError):
    """No log; `what` is -1 or the index of the first wrong item."""


class BadText(BlindError):
    """A wrong text; `what` is 0 or the number of the first wrong line."""
