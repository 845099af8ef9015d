"""Noise: words of a book of which some bits were turned, and which words can have been sent."""

from itertools import combinations
from math import comb

from blindtwins.errors import BadCount, BadLots, NoWord, TooMany
from blindtwins.lots import MOST_LOTS, is_between, need_each_lot, need_lot
from blindtwins.masks import first_places, lot_of, mask_of, ones, unseen

MOST_LEFT = 16


class Noise:
    """A book and the patterns in which bits are turned; `masks` are the patterns as masks."""

    def __init__(self, book, patterns):
        if not isinstance(patterns, list) or not 1 <= len(patterns) <= MOST_LOTS:
            raise BadLots(-1)
        need_each_lot(patterns, book.size)
        self.book = book
        self.patterns = list(patterns)
        # A caller may change the list above; the noise itself goes by these.
        self.masks = tuple([mask_of(pattern) for pattern in patterns])


def up_to(book, number):
    """The noise that turns bits at any so many places."""
    if not is_between(number, 0, book.size):
        raise BadCount(number)
    if comb(book.size, number) > MOST_LOTS:
        raise TooMany(MOST_LOTS)
    return Noise(book, list(combinations(range(book.size), int(number))))


def surely(noise):
    """None if whatever comes can come of one word alone, otherwise (i, j, word)."""
    for first, one in enumerate(noise.masks):
        for second in range(first, len(noise.masks)):
            within = unseen(noise.book.masks, ~(one | noise.masks[second]))
            if within:
                return first, second, lot_of(within[0])
    return None


def words_of(noise, came, silent):
    """The ascending list of the words of which `came` can have come, if `silent` was not read."""
    need_lot(came, noise.book.size)
    need_lot(silent, noise.book.size)
    shown = mask_of(came)
    hidden = mask_of(silent)
    # Outside of these places nothing is turned.
    changing = [pattern | hidden for pattern in noise.masks]
    return [word for word in noise.book.words() if _in_one(mask_of(word) ^ shown, changing)]


def _in_one(mask, places):
    """True if the mask lies in one of these masks."""
    return any([mask & ~some == 0 for some in places])


def ask_again(noise, came, silent):
    """(number, lot) of the fewest places whose bits tell which of the words that are left it is."""
    words = words_of(noise, came, silent)
    if not words:
        raise NoWord()
    if len(words) > MOST_LEFT:
        raise TooMany(MOST_LEFT)
    masks = [mask_of(word) for word in words]
    gaps = [one ^ other for one, other in combinations(masks, 2)]
    places = None
    number = -1
    while places is None:
        number += 1
        places = _meeting(gaps, first_places(noise.book.size), number)
    return number, lot_of(places)


def _meeting(gaps, places, most):
    """The mask of at most `most` of these places that has one of each gap; None if there is none."""
    if not gaps:
        return 0
    if most == 0:
        return None
    # One place of the gap with the fewest must be taken.
    for place in lot_of(min([gap & places for gap in gaps], key=ones)):
        bit = 1 << place
        found = _meeting([gap for gap in gaps if not gap & bit], places, most - 1)
        if found is not None:
            return found | bit
        # All that have this place have been tried.
        places &= ~bit
    return None


def greatest(book):
    """(number, word): how many turned bits can surely be told, and a word with the fewest ones."""
    words = book.words()
    if len(words) == 1:
        return book.size, None
    # The words are ascending, so that the empty one is the first.
    word = min(words[1:], key=len)
    # Two patterns of t places have each lot of 2 * t places or fewer together.
    return (len(word) - 1) // 2, word
