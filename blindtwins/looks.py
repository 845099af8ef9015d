"""Looks: a sign, the wires that are flipped and the wires that are turned; their products."""

from blindtwins.errors import BadLook, BadLooks, BadSize
from blindtwins.lots import is_bit, is_lot, is_number, plus

MOST_WIRES = 10


def is_look(value, wires):
    """True if the value is a look of so many wires, otherwise False."""
    if not is_number(wires) or not 1 <= wires <= MOST_WIRES:
        raise BadSize(wires)
    if not isinstance(value, tuple) or len(value) != 3:
        return False
    sign, flips, turns = value
    return is_bit(sign) and is_lot(flips, wires) and is_lot(turns, wires)


def need_look(value, wires):
    """Raises BadLook(value) if the value is not a look of so many wires."""
    if not is_look(value, wires):
        raise BadLook(value)


def together(one, other):
    """True if the two looks go together."""
    need_look(one, MOST_WIRES)
    need_look(other, MOST_WIRES)
    return (_common(one[1], other[2]) + _common(one[2], other[1])) % 2 == 0


def times(one, other):
    """The product of two looks that go together."""
    if not together(one, other):
        raise BadLooks(None)
    flips = plus(one[1], other[1])
    turns = plus(one[2], other[2])
    # Counted in quarters, as a wire with both, Y, is flip times turn but for a quarter.
    quarters = 2 * one[0] + 2 * other[0] + _common(one[1], one[2]) + _common(other[1], other[2])
    quarters += 2 * _common(one[2], other[1]) - _common(flips, turns)
    return quarters % 4 // 2, flips, turns


def _common(one, other):
    """The number of wires that are in both lots."""
    return len([wire for wire in one if wire in other])
