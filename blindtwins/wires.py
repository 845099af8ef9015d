"""States of wires, told by looks; deeds on them, what a look tells, and scripts of deeds."""

from blindtwins.errors import BadBits, BadLooks, BadScript, BadWire
from blindtwins.looks import is_look, need_look, need_pairs, need_wires, pair_mask, times, together
from blindtwins.lots import is_below, is_bit, plus
from blindtwins.masks import first_places, lot_of, lowest, sweep

MOST_DEEDS = 60
MOST_BITS = 60
NOTHING = (0, (), ())


class State:
    """A state of so many wires, told by as many looks; `_looks` are the reduced ones."""

    def __init__(self, wires, looks):
        need_wires(wires)
        if not isinstance(looks, list) or len(looks) != wires:
            raise BadLooks(-1)
        need_pairs([look[1:] if is_look(look, wires) else None for look in looks], wires)
        self.wires = wires
        self._looks = _reduced(looks, wires)

    def __eq__(self, other):
        return isinstance(other, State) and self.wires == other.wires and self._looks == other._looks

    def looks(self):
        """The reduced looks."""
        return list(self._looks)

    def swap_sorts(self, wire):
        """The state with flip and turn exchanged at the wire."""
        self._need_wire(wire)
        return State(self.wires, [_sorts_swapped(look, wire) for look in self._looks])

    def quarter(self, wire):
        """The state in which a flip at the wire has become flip and turn, and these a negative flip."""
        self._need_wire(wire)
        return State(self.wires, [_quartered(look, wire) for look in self._looks])

    def tied(self, first, second):
        """The state in which flips at the first wire flip the second, turns at the second turn the first."""
        self._need_wire(first)
        self._need_wire(second)
        if first == second:
            raise BadWire(second)
        return State(self.wires, [_tied_up(look, first, second) for look in self._looks])

    def turn_by(self, look):
        """The state with the other sign for each look that does not go together with this one."""
        need_look(look, self.wires)
        return State(self.wires, [other if together(other, look) else _negative(other) for other in self._looks])

    def look(self, look):
        """("sure", bit) if the group has the look or its negative, otherwise ("free", state0, state1)."""
        need_look(look, self.wires)
        apart = [other for other in self._looks if not together(other, look)]
        if not apart:
            # What goes together with the whole group is in it, with the one sign or the other.
            return "sure", look[0] ^ self._sign_at(look)
        # The looks that still hold: those together with this one, and products of two that are not.
        holding = [other for other in self._looks if together(other, look)]
        holding = holding + [times(apart[0], other) for other in apart[1:]]
        return "free", State(self.wires, [look] + holding), State(self.wires, [_negative(look)] + holding)

    def _need_wire(self, wire):
        if not is_below(wire, self.wires):
            raise BadWire(wire)

    def _sign_at(self, look):
        """The sign of the look of the group that has the flips and turns of this one."""
        mask = pair_mask(look[1:], self.wires)
        # Each reduced look is the only one that has its least place.
        product = _product([other for other in self._looks if lowest(pair_mask(other[1:], self.wires)) & mask])
        return product[0]


def zeros(wires):
    """The state of the looks (0, (), (w,)) for each wire w."""
    need_wires(wires)
    return State(wires, [(0, (), (wire,)) for wire in range(wires)])


def run(state, script, bits):
    """(state behind, told): the script's deeds done, with these bits for what free looks tell."""
    _need_script(script, state.wires)
    if not _are_bits(bits):
        raise BadBits(bits)
    told = []
    used = 0
    for deed in script:
        if deed[0] != "look":
            state = _done(state, deed, told)
            continue
        answer = state.look(deed[1])
        if answer[0] == "sure":
            told.append(answer[1])
            continue
        if used == len(bits):
            raise BadBits(bits)
        state = answer[1 + bits[used]]
        told.append(bits[used])
        used += 1
    return state, tuple(told)


def _reduced(looks, wires):
    """The tuple of the reduced looks of the group that is told by these looks."""
    # Behind the places of flips and turns, each row has the indexes of the looks whose product it is.
    behind = 2 * wires
    rows = [pair_mask(look[1:], wires) | 1 << (behind + index) for index, look in enumerate(looks)]
    seen, _ = sweep(rows, first_places(behind))
    factors = [lot_of(row >> behind) for row in sorted(seen, key=lowest)]
    return tuple([_product([looks[index] for index in some]) for some in factors])


def _product(looks):
    """The product of looks that go together."""
    product = NOTHING
    for look in looks:
        product = times(product, look)
    return product


def _negative(look):
    """The look with the other sign."""
    sign, flips, turns = look
    return 1 - sign, flips, turns


def _sorts_swapped(look, wire):
    """What becomes of the look if flip and turn are exchanged at the wire."""
    sign, flips, turns = look
    both = wire in flips and wire in turns
    if (wire in flips) == (wire in turns):
        return sign ^ int(both), flips, turns
    return sign, plus(flips, (wire,)), plus(turns, (wire,))


def _quartered(look, wire):
    """What becomes of the look if its turn is changed where it has a flip at the wire."""
    sign, flips, turns = look
    if wire not in flips:
        return look
    return sign ^ int(wire in turns), flips, plus(turns, (wire,))


def _tied_up(look, first, second):
    """What becomes of the look if the second wire is flipped by the first one."""
    sign, flips, turns = look
    changed = first in flips and second in turns and (first in turns) == (second in flips)
    new_flips = plus(flips, (second,)) if first in flips else flips
    new_turns = plus(turns, (first,)) if second in turns else turns
    return sign ^ int(changed), new_flips, new_turns


def _done(state, deed, told):
    """The state behind a deed that is no look; told are the bits of the looks ahead of it."""
    kind = deed[0]
    if kind == "sorts":
        return state.swap_sorts(deed[1])
    if kind == "quarter":
        return state.quarter(deed[1])
    if kind == "tied":
        return state.tied(deed[1], deed[2])
    if kind == "turn":
        return state.turn_by(deed[1])
    if told[deed[1]] == 1:
        return state.turn_by(deed[2])
    return state


def _need_script(script, wires):
    """Raises BadScript unless it is a list of at most 60 deeds for so many wires."""
    if not isinstance(script, list) or len(script) > MOST_DEEDS:
        raise BadScript(-1)
    looks = 0
    for index, deed in enumerate(script):
        if not _is_deed(deed, wires, looks):
            raise BadScript(index)
        if deed[0] == "look":
            looks += 1


def _is_deed(value, wires, looks):
    """True if the value is a deed for so many wires, with so many looks ahead of it in the script."""
    if not isinstance(value, tuple) or not 2 <= len(value) <= 3:
        return False
    kind = value[0]
    if len(value) == 2:
        if kind in ("sorts", "quarter"):
            return is_below(value[1], wires)
        return kind in ("turn", "look") and is_look(value[1], wires)
    if kind == "tied":
        return is_below(value[1], wires) and is_below(value[2], wires) and value[1] != value[2]
    return kind == "if" and is_below(value[1], looks) and is_look(value[2], wires)


def _are_bits(value):
    """True if the value is a list of at most 60 bits."""
    return isinstance(value, list) and len(value) <= MOST_BITS and all([is_bit(bit) for bit in value])
