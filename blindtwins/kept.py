"""Kept wires: what looks keep in wires, and which falls of wires can be mended."""

from blindtwins.errors import BadDeed, BadLooks, Lost, TooMany, Unlike
from blindtwins.looks import MOST_WIRES, exchanged, is_pair, need_pairs, need_wires, pair_mask, pair_of
from blindtwins.lots import need_lot
from blindtwins.masks import ALL_PLACES, check_rows, cleared, odd, ones, reduce_rows
from blindtwins.masks import shadows, sweep, unseen


class Kept:
    """What is kept in wires; `masks` are the reduced rows of the book of looks, as masks of pairs."""

    def __init__(self, wires, looks):
        need_wires(wires)
        if not isinstance(looks, list) or len(looks) > wires:
            raise BadLooks(-1)
        need_pairs(looks, wires)
        self.wires = wires
        self.kept = wires - len(looks)
        self.masks = tuple(reduce_rows([pair_mask(look, wires) for look in looks]))

    def __eq__(self, other):
        return isinstance(other, Kept) and self.wires == other.wires and self.masks == other.masks


def _fitting(kept):
    """Rows that tell all deeds that go together with all looks."""
    against = [exchanged(mask, kept.wires) for mask in kept.masks]
    return check_rows(reduce_rows(against), 2 * kept.wires)


def _at(kept, part):
    """The mask of the flips and turns of a lot of wires."""
    need_lot(part, kept.wires)
    return pair_mask((part, part), kept.wires)


def gain(kept, part):
    """How many deeds that lie in the part change what is kept, no product of them being a look."""
    outside = ~_at(kept, part)
    return len(unseen(_fitting(kept), outside)) - len(unseen(kept.masks, outside))


def mends(kept, fall):
    """None if the fall of these wires can be mended, otherwise an unseen deed that lies in it."""
    outside = ~_at(kept, fall)
    for row in unseen(_fitting(kept), outside):
        if cleared(row, kept.masks, ALL_PLACES):
            return pair_of(row, kept.wires)
    return None


def moved_off(kept, fall, deed):
    """A deed that does the same as this one and lies in the wires that have not fallen."""
    fallen = _at(kept, fall)
    if not is_pair(deed, kept.wires):
        raise BadDeed(deed)
    mask = pair_mask(deed, kept.wires)
    if any([odd(exchanged(row, kept.wires) & mask) for row in kept.masks]):
        raise BadDeed(deed)
    unseen_deed = mends(kept, fall)
    if unseen_deed is not None:
        raise Lost(unseen_deed)
    # On the fall, the deed is then the same as some sum of looks.
    seen, _ = sweep(kept.masks, fallen)
    return pair_of(cleared(mask, seen, fallen), kept.wires)


def weakest_wires(kept):
    """The least number of wires of a fall that cannot be mended; None if nothing is kept."""
    if kept.kept == 0:
        return None
    parts = [pair_mask(((wire,), (wire,)), kept.wires) for wire in range(kept.wires)]
    fitting = shadows(_fitting(kept), parts)
    looks = shadows(kept.masks, parts)
    # The tables go by the wires that stand; what is 0 there lies in the fall.
    standing = [some for some in range(len(looks)) if len(fitting[some]) > len(looks[some])]
    return kept.wires - max([ones(some) for some in standing])


def between(kept, part):
    """What the part and the rest have together, for wires in which nothing is kept."""
    outside = ~_at(kept, part)
    if kept.kept != 0:
        raise Lost(None)
    return len(part) - len(unseen(kept.masks, outside))


def from_books(flips, turns):
    """The Kept whose looks are the words of one book as flips and those of another one as turns."""
    if flips.size != turns.size:
        raise Unlike(turns.size)
    if flips.size > MOST_WIRES:
        raise TooMany(MOST_WIRES)
    if not all([turns.is_check(row) for row in flips.rows()]):
        raise BadLooks(None)
    return Kept(flips.size, [(row, ()) for row in flips.rows()] + [((), row) for row in turns.rows()])
