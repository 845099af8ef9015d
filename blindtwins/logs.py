"""Logs: bits that were seen at lots, which words fit them, and what shows that none does."""

from blindtwins.errors import BadLog, TooMany
from blindtwins.lots import is_bit, is_lot, need_lot
from blindtwins.masks import bits_at, check_rows, cleared, first_places, lot_of, mask_of, odd
from blindtwins.masks import reduce_rows, span, sweep, with_bits

MOST_ITEMS = 60
MOST_SEARCHED = 14


def need_log(log, size):
    """Raises BadLog unless it is a list of at most 60 pairs of a lot of this size and a bit or None."""
    if not isinstance(log, list) or len(log) > MOST_ITEMS:
        raise BadLog(-1)
    for index, item in enumerate(log):
        if not _is_item(item, size):
            raise BadLog(index)


def _is_item(value, size):
    """True if the value is a pair of a lot of this size and a bit or None."""
    if not isinstance(value, tuple) or len(value) != 2:
        return False
    return is_lot(value[0], size) and (value[1] is None or is_bit(value[1]))


def count_fit(book, log):
    """The number of words of the book that have the known bits at their lots."""
    need_log(log, book.size)
    word, free = _fitting(book, log)
    if word is None:
        return 0
    return 1 << len(free)


def sure(book, log, wish):
    """The bit at the wish that all words that fit have; None if they differ or there is none."""
    need_log(log, book.size)
    need_lot(wish, book.size)
    word, free = _fitting(book, log)
    at = mask_of(wish)
    if word is None or any([odd(row & at) for row in free]):
        return None
    return odd(word & at)


def against(book, log):
    """None if some word fits, otherwise a lot of indexes of bits that no word has together."""
    need_log(log, book.size)
    indexes, lots, bits = _known(log)
    for choice in _sums_to_checks(book, lots):
        if odd(choice & bits):
            return _chosen(indexes, choice)
    return None


def against_fault(book, log, indexes):
    """None if it is a lot that `against` may return, otherwise the first fault."""
    need_log(log, book.size)
    if not is_lot(indexes, len(log)):
        return ("form",)
    rest = 0
    ones_told = 0
    for index in indexes:
        lot, bit = log[index]
        if bit is None:
            return "unknown", index
        rest ^= mask_of(lot)
        ones_told += bit
    if not book.is_check(lot_of(rest)):
        return ("check",)
    if ones_told % 2 == 0:
        return ("even",)
    return None


def least_against(book, log):
    """The first lot as by `against` with the least number of indexes; None if some word fits."""
    need_log(log, book.size)
    if len(log) > MOST_SEARCHED:
        raise TooMany(MOST_SEARCHED)
    indexes, lots, bits = _known(log)
    choices = [choice for choice in span(_sums_to_checks(book, lots)) if odd(choice & bits)]
    if not choices:
        return None
    return min([_chosen(indexes, choice) for choice in choices], key=_length_first)


def _length_first(lot):
    """What lots are compared by: their numbers of places, then themselves."""
    return len(lot), lot


def _known(log):
    """(indexes, lots, bits) of the known bits: their indexes, the masks of their lots, the mask of the bits."""
    indexes = [index for index, (_, bit) in enumerate(log) if bit is not None]
    lots = [mask_of(log[index][0]) for index in indexes]
    bits = mask_of([number for number, index in enumerate(indexes) if log[index][1] == 1])
    return indexes, lots, bits


def _chosen(indexes, choice):
    """The lot of these indexes in the log, for a mask of their numbers."""
    return tuple([indexes[number] for number in lot_of(choice)])


def _sums_to_checks(book, lots):
    """Rows that tell, as masks of their numbers, all choices of lots that sum to a check."""
    # These are the checks of the book of the bits that the words have at the lots.
    return check_rows(reduce_rows([bits_at(row, lots) for row in book.masks]), len(lots))


def _fitting(book, log):
    """(word, rows): a word that fits, and rows that tell how the others differ; (None, []) if none fits."""
    _, lots, bits = _known(log)
    behind = first_places(len(lots)) << book.size
    seen, free = sweep(with_bits(book.masks, lots, book.size), behind)
    # Where the bits behind the places are cleared away, the rows that did it have left their word.
    word = cleared(bits << book.size, seen, behind)
    if word & behind:
        return None, []
    return word, free
