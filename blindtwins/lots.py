"""Lots: ascending tuples of numbers, which stand for sets of places and for words."""

from blindtwins.errors import BadLot, BadLots, BadPlace, BadSize
from blindtwins.masks import lot_of, mask_of, odd

MOST_PLACES = 60
MOST_LOTS = 60


def is_number(value):
    """True if the value is an integer; a flag is none."""
    return isinstance(value, int) and not isinstance(value, bool)


def is_between(value, least, most):
    """True if the value is an integer from the least to the most."""
    return is_number(value) and least <= value <= most


def is_below(value, count):
    """True if the value is one of so many things, numbered from 0 on."""
    return is_between(value, 0, count - 1)


def is_bit(value):
    """True if the value is the integer 0 or 1."""
    return is_between(value, 0, 1)


def is_amount(value):
    """True if the value is an integer from 0 on."""
    return is_number(value) and value >= 0


def need_size(size):
    """Raises BadSize(size) unless it is a size that lots may have."""
    if not is_between(size, 0, MOST_PLACES):
        raise BadSize(size)


def need_place(place, size):
    """Raises BadPlace(place) unless it is one of so many places."""
    if not is_below(place, size):
        raise BadPlace(place)


def is_lot(value, size):
    """True if the value is a lot of this size, otherwise False."""
    need_size(size)
    if not isinstance(value, tuple):
        return False
    least = 0
    for place in value:
        if not is_number(place) or not least <= place < size:
            return False
        least = place + 1
    return True


def need_lot(value, size):
    """Raises BadLot(value) if the value is not a lot of this size."""
    if not is_lot(value, size):
        raise BadLot(value)


def need_each_lot(values, size):
    """Raises BadLots(index) for the first item that is not a lot of this size."""
    for index, value in enumerate(values):
        if not is_lot(value, size):
            raise BadLots(index)


def need_lots(value, size, most=MOST_LOTS):
    """Raises BadLots if the value is not a list of at most so many lots of this size."""
    if not isinstance(value, list) or len(value) > most:
        raise BadLots(-1)
    need_each_lot(value, size)


def plus(one, other):
    """The sum of two lots: the numbers that are in exactly one of them."""
    need_lot(one, MOST_PLACES)
    need_lot(other, MOST_PLACES)
    return lot_of(mask_of(one) ^ mask_of(other))


def bit_at(word, lot):
    """The bit of the word at the lot."""
    need_lot(word, MOST_PLACES)
    need_lot(lot, MOST_PLACES)
    return odd(mask_of(word) & mask_of(lot))


def total(lots):
    """The sum of all lots of a list."""
    if not isinstance(lots, list):
        raise BadLots(-1)
    need_each_lot(lots, MOST_PLACES)
    mask = 0
    for lot in lots:
        mask ^= mask_of(lot)
    return lot_of(mask)
