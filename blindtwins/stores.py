"""Stores: a book whose places lie on disks, what is lost when disks fall, and how it is told again."""

from blindtwins.errors import BadCount, BadDisks, BadFalls, BadPlace, BadPrices
from blindtwins.known import knows
from blindtwins.lots import is_amount, is_between, is_lot, need_lot, need_lots, need_place
from blindtwins.masks import costs_of, first_places, knowing, lot_of, mask_of, ones
from blindtwins.masks import shadows, unseen, with_bits

MOST_DISKS = 12
MOST_SUMS = 12
MOST_FALLS = 60


class Store:
    """A book and the disks, lots of its places, on which they lie."""

    def __init__(self, book, disks):
        _need_disks(disks, book.size)
        self.book = book
        self.disks = disks

    def __eq__(self, other):
        return isinstance(other, Store) and self.book == other.book and self.disks == other.disks


def _need_disks(disks, size):
    """Raises BadDisks unless each place lies on just one of the disks, and none is empty."""
    if not isinstance(disks, tuple) or not 1 <= len(disks) <= MOST_DISKS:
        raise BadDisks(-1)
    taken = 0
    for index, disk in enumerate(disks):
        if not is_lot(disk, size) or len(disk) == 0 or mask_of(disk) & taken:
            raise BadDisks(index)
        taken |= mask_of(disk)
    if taken != first_places(size):
        raise BadDisks(len(disks))


def _masks(store):
    """The disks as masks."""
    return [mask_of(disk) for disk in store.disks]


def _fallen(store, fall):
    """The mask of the places of the fallen disks."""
    need_lot(fall, len(store.disks))
    return sum([mask_of(store.disks[disk]) for disk in fall])


def _standing(store, fall):
    """The mask of the places of the disks that stand."""
    return first_places(store.book.size) ^ _fallen(store, fall)


def places_of(store, disks):
    """The lot of all places of a lot of disks."""
    return lot_of(_fallen(store, disks))


def lost(store, fall):
    """How many bits are lost: the dim of the words that are 0 on all disks that stand."""
    return len(unseen(store.book.masks, _standing(store, fall)))


def heal(store, fall):
    """("sums", table) with a lot of standing places for each fallen one, or ("twin", word)."""
    standing = _standing(store, fall)
    hidden = unseen(store.book.masks, standing)
    if hidden:
        return "twin", lot_of(hidden[0])
    part = lot_of(standing)
    return "sums", {place: knows(store.book, part, (place,))[1] for place in places_of(store, fall)}


def heal_fault(store, fall, answer):
    """None if the answer is one that `heal` may return, otherwise the first fault."""
    standing = _standing(store, fall)
    if not isinstance(answer, tuple) or len(answer) != 2:
        return ("form",)
    kind, told = answer
    if kind == "sums" and isinstance(told, dict):
        return _sums_fault(store.book, standing, told)
    if kind == "twin" and is_lot(told, store.book.size):
        return _twin_fault(store.book, standing, told)
    return ("form",)


def _sums_fault(book, standing, table):
    """The first fault of the sums, over the places outside of the standing ones."""
    for place in range(book.size):
        if standing >> place & 1:
            continue
        told = table.get(place)
        if not is_lot(told, book.size):
            return "lacks", place
        if mask_of(told) & ~standing:
            return "part", place
        if not book.tell_same(told, (place,)):
            return "check", place
    return None


def _twin_fault(book, standing, word):
    """The first fault of the word as a twin."""
    if not book.holds(word):
        return ("word",)
    if len(word) == 0:
        return ("nought",)
    shown = lot_of(mask_of(word) & standing)
    if shown:
        return "seen", shown[0]
    return None


def repair(store, place, fall, prices):
    """(price, disks, X) of the cheapest standing disks that know the fallen place; None if none do."""
    _need_repair(store, place, fall, prices)
    standing = [disk for disk in range(len(store.disks)) if disk not in fall]
    parts = [mask_of(store.disks[disk]) for disk in standing]
    flags = knowing(store.book.masks, parts, 1 << place)
    costs = costs_of([prices[disk] for disk in standing])
    best = None
    for choice, cost in enumerate(costs):
        if flags[choice] and (best is None or cost < costs[best]):
            best = choice
    if best is None:
        return None
    disks = tuple([standing[number] for number in lot_of(best)])
    _, chosen = knows(store.book, places_of(store, disks), (place,))
    return costs[best], disks, chosen


def _need_repair(store, place, fall, prices):
    """Raises the error of the first wrong argument of `repair`."""
    need_place(place, store.book.size)
    need_lot(fall, len(store.disks))
    if not isinstance(prices, tuple) or len(prices) != len(store.disks):
        raise BadPrices(prices)
    if not all([is_amount(price) for price in prices]):
        raise BadPrices(prices)
    if place not in places_of(store, fall):
        raise BadPlace(place)


def rounds(store, fall, most):
    """(lots put back in round 1, 2, .., the lot never put back) if most disks are read for a place."""
    missing = _fallen(store, fall)
    if not is_between(most, 1, MOST_DISKS):
        raise BadCount(most)
    done = []
    back = _put_back(store, missing, most)
    while back:
        done.append(lot_of(back))
        missing ^= back
        back = _put_back(store, missing, most)
    return done, lot_of(missing)


def _put_back(store, missing, most):
    """The mask of the missing places that some at most `most` disks know by their other places."""
    parts = [disk & ~missing for disk in _masks(store)]
    # A disk without a place to read tells nothing.
    return _told_by_few(store.book.masks, [part for part in parts if part], most, missing)


def _told_by_few(rows, parts, most, places):
    """The mask of the places that some at most `most` of the parts know; the rows are those unseen yet."""
    # More parts tell no less, so that only choices of as many as may be are looked at.
    if len(parts) <= most:
        return _always_nought(unseen(rows, sum(parts)), places)
    told = _always_nought(rows, places)
    if most == 0:
        return told
    for index in range(len(parts) - most + 1):
        if told != places:
            told |= _told_by_few(unseen(rows, parts[index]), parts[index + 1:], most - 1, places)
    return told


def _always_nought(rows, places):
    """The mask of the places at which all the rows are 0."""
    for row in rows:
        places &= ~row
    return places


def weakest(store):
    """(number, fall, word) of a least fall at which something is lost; None if nothing can be."""
    best = None
    # A fall has the same index from the front as the disks that stand have from the end.
    table = shadows(store.book.masks, _masks(store))[::-1]
    for fall, hidden in enumerate(table):
        if hidden and (best is None or ones(fall) < ones(best)):
            best = fall
    if best is None:
        return None
    return ones(best), lot_of(best), lot_of(table[best][0])


def bad_falls(store, number):
    """How many falls of exactly this number of disks lose something."""
    if not is_between(number, 0, len(store.disks)):
        raise BadCount(number)
    # As in `weakest`, a fall is told by its index in the reversed table.
    table = shadows(store.book.masks, _masks(store))[::-1]
    return len([fall for fall, hidden in enumerate(table) if hidden and ones(fall) == number])


def heals(store, sums, falls):
    """None if the sums and the standing disks know all behind each fall; otherwise (index, word)."""
    need_lots(sums, store.book.size, MOST_SUMS)
    _need_falls(falls, len(store.disks))
    size = store.book.size
    rows = with_bits(store.book.masks, [mask_of(lot) for lot in sums], size)
    kept = first_places(len(sums)) << size
    for index, fall in enumerate(falls):
        hidden = unseen(rows, _standing(store, fall) | kept)
        if hidden:
            return index, lot_of(hidden[0])
    return None


def _need_falls(falls, disks):
    """Raises BadFalls unless it is a list of at most 60 lots of so many disks."""
    if not isinstance(falls, list) or len(falls) > MOST_FALLS:
        raise BadFalls(-1)
    for index, fall in enumerate(falls):
        if not is_lot(fall, disks):
            raise BadFalls(index)
