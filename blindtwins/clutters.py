"""Clutters: the least parts that know a wish, the least lots that blind for it, and blockers."""

from blindtwins.errors import BadClutter, BadPrices, BadSize, TooMany
from blindtwins.lots import is_amount, is_between, is_lot, need_lot, need_size
from blindtwins.masks import blocking, containing, first_places, knowing, least_chosen, mask_of

MOST_PLACES = 14
MOST_IN_CLUTTER = 2000


def least_knowing(book, wish):
    """The ascending list of the least parts, without a place of the wish, that know it."""
    places, flags = _knowing_parts(book, wish)
    return least_chosen(flags, places)


def least_blinding(book, wish):
    """The ascending list of the least lots such that all places but them and the wish's don't know it."""
    places, flags = _knowing_parts(book, wish)
    return least_chosen(blocking(flags), places)


def _knowing_parts(book, wish):
    """(places, flags): the places outside of the wish, and the table of the choices that know it."""
    need_lot(wish, book.size)
    if book.size > MOST_PLACES:
        raise TooMany(MOST_PLACES)
    places = _other_places(book, wish)
    return places, knowing(book.masks, [1 << place for place in places], mask_of(wish))


def _other_places(book, wish):
    """The places of the book that are not in the wish."""
    return [place for place in range(book.size) if place not in wish]


def is_clutter(value, size):
    """True if the value is an ascending list of lots of this size, none contained in another one."""
    need_size(size)
    if not isinstance(value, list) or not all([is_lot(lot, size) for lot in value]):
        return False
    for index in range(1, len(value)):
        if value[index - 1] >= value[index]:
            return False
    return _none_contained(value, size)


def _none_contained(lots, size):
    """True if none of the lots, all unlike, is contained in another one."""
    # All lots are looked at together, one bit for each, so that long lists are not searched in pairs.
    having = [0] * size
    for index, lot in enumerate(lots):
        for place in lot:
            having[place] |= 1 << index
    for index, lot in enumerate(lots):
        around = first_places(len(lots))
        for place in lot:
            around &= having[place]
        if around != 1 << index:
            return False
    return True


def blocker(clutter, size):
    """The ascending list of the least lots that have a common place with each lot of the clutter."""
    if not is_between(size, 0, MOST_PLACES):
        raise BadSize(size)
    if not isinstance(clutter, list) or len(clutter) > MOST_IN_CLUTTER or not is_clutter(clutter, size):
        raise BadClutter(clutter)
    # A lot misses some lot of the clutter just if the places outside of it contain that one.
    flags = containing([mask_of(lot) for lot in clutter], size)
    found = least_chosen(blocking(flags), list(range(size)))
    if len(found) > MOST_IN_CLUTTER:
        raise TooMany(MOST_IN_CLUTTER)
    return found


def cheapest_knowing(book, wish, prices):
    """(price, lot) of the cheapest part that knows the wish; None if there is none."""
    _need_prices(book, wish, prices)
    return _cheapest(least_knowing(book, wish), prices)


def cheapest_blinding(book, wish, prices):
    """(price, lot) of the cheapest blinding lot; None if there is none."""
    _need_prices(book, wish, prices)
    return _cheapest(least_blinding(book, wish), prices)


def _need_prices(book, wish, prices):
    """Raises BadLot for the wish, BadPrices unless there is a price for each place outside of it."""
    need_lot(wish, book.size)
    if not isinstance(prices, dict):
        raise BadPrices(prices)
    for place in _other_places(book, wish):
        if not is_amount(prices.get(place)):
            raise BadPrices(prices)


def _cheapest(lots, prices):
    """(price, lot) with the first lot that has the least price; None if there is no lot."""
    best = None
    for lot in lots:
        price = sum([prices[place] for place in lot])
        if best is None or price < best[0]:
            best = (price, lot)
    return best
