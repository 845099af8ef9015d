"""Looks: a sign, the wires that are flipped and the wires that are turned; their products."""

from blindtwins.errors import BadLook, BadLooks, BadSize
from blindtwins.lots import is_between, is_bit, is_lot, plus
from blindtwins.masks import first_places, lot_of, mask_of, odd, reduce_rows

MOST_WIRES = 10


def need_wires(wires):
    """Raises BadSize(wires) unless it is a number of wires that there may be."""
    if not is_between(wires, 1, MOST_WIRES):
        raise BadSize(wires)


def is_pair(value, wires):
    """True if the value is a pair of lots of wires: flips and turns, without a sign."""
    if not isinstance(value, tuple) or len(value) != 2:
        return False
    return is_lot(value[0], wires) and is_lot(value[1], wires)


def is_look(value, wires):
    """True if the value is a look of so many wires, otherwise False."""
    need_wires(wires)
    if not isinstance(value, tuple) or len(value) != 3:
        return False
    return is_bit(value[0]) and is_pair(value[1:], wires)


def need_look(value, wires):
    """Raises BadLook(value) if the value is not a look of so many wires."""
    if not is_look(value, wires):
        raise BadLook(value)


def together(one, other):
    """True if the two looks go together."""
    need_look(one, MOST_WIRES)
    need_look(other, MOST_WIRES)
    return (_common(one[1], other[2]) + _common(one[2], other[1])) % 2 == 0


def times(one, other):
    """The product of two looks that go together."""
    if not together(one, other):
        raise BadLooks(None)
    flips = plus(one[1], other[1])
    turns = plus(one[2], other[2])
    # Counted in quarters, as a wire with both, Y, is flip times turn but for a quarter.
    quarters = 2 * one[0] + 2 * other[0] + _common(one[1], one[2]) + _common(other[1], other[2])
    quarters += 2 * _common(one[2], other[1]) - _common(flips, turns)
    return quarters % 4 // 2, flips, turns


def _common(one, other):
    """The number of wires that are in both lots."""
    return len([wire for wire in one if wire in other])


def pair_mask(pair, wires):
    """The mask of a pair: the flips, and the turns put behind all wires."""
    flips, turns = pair
    return mask_of(flips) | mask_of(turns) << wires


def pair_of(mask, wires):
    """The pair of a mask."""
    return lot_of(mask & first_places(wires)), lot_of(mask >> wires)


def exchanged(mask, wires):
    """The mask of the pair whose flips are the turns of this one, and whose turns are its flips.

    Two pairs go together if the bit of the one at the other one, exchanged, is 0.
    """
    return mask >> wires | (mask & first_places(wires)) << wires


def need_pairs(pairs, wires):
    """Raises BadLooks(index) for the first that is no pair, or does not fit to those ahead of it.

    It fits if it goes together with each of them and is no product of some (of none: both empty).
    """
    masks = []
    for index, pair in enumerate(pairs):
        if not is_pair(pair, wires):
            raise BadLooks(index)
        mask = pair_mask(pair, wires)
        against = exchanged(mask, wires)
        if any([odd(other & against) for other in masks]):
            raise BadLooks(index)
        masks.append(mask)
        if len(reduce_rows(masks)) < len(masks):
            raise BadLooks(index)
