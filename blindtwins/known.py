"""What a part knows of the whole: a wished sum is a sum of the part, or there is a blind twin."""

from blindtwins.books import MOST_WORDS
from blindtwins.errors import BadLot, BadPrices, TooMany
from blindtwins.lots import is_amount, is_below, is_lot, need_lot, need_lots
from blindtwins.masks import bits_at, certificate, costs_of, lot_of, mask_of, odd, picked
from blindtwins.masks import reduce_rows, span, sweep, unseen

MOST_OFFERED = 12


def see(book, part):
    """How many bits of a word the part sees: the dim of what it shows."""
    need_lot(part, book.size)
    seen, _ = sweep(book.masks, mask_of(part))
    return len(seen)


def hide(book, part):
    """The dim of the book of the words that are 0 on the whole part."""
    return book.dim - see(book, part)


def knows(book, part, wish):
    """("sum", X) with a lot X within the part that tells the wish, or ("twin", word)."""
    need_lot(part, book.size)
    need_lot(wish, book.size)
    kind, mask = certificate(book.masks, mask_of(part), mask_of(wish))
    return kind, lot_of(mask)


def knows_fault(book, part, wish, answer):
    """None if the answer is one that `knows` may return, otherwise the first fault."""
    need_lot(part, book.size)
    need_lot(wish, book.size)
    if not _is_answer(answer, book.size):
        return ("form",)
    kind, lot = answer
    if kind == "sum":
        return _sum_fault(book, mask_of(part), mask_of(wish), mask_of(lot))
    return _twin_fault(book, mask_of(part), mask_of(wish), mask_of(lot))


def _is_answer(value, size):
    """True if the value has the form of an answer, for a book of this size."""
    if not isinstance(value, tuple) or len(value) != 2:
        return False
    return value[0] in ("sum", "twin") and is_lot(value[1], size)


def _sum_fault(book, part, wish, chosen):
    """The fault of the sum `chosen`; the lots are masks."""
    outside = lot_of(chosen & ~part)
    if outside:
        return "part", outside[0]
    row = _first_odd(book.masks, chosen ^ wish)
    if row is not None:
        return "check", row
    return None


def _twin_fault(book, part, wish, word):
    """The fault of the twin `word`; the lots are masks."""
    check = _first_odd([mask_of(lot) for lot in book.checks()], word)
    if check is not None:
        return "word", check
    shown = lot_of(word & part)
    if shown:
        return "seen", shown[0]
    if not odd(word & wish):
        return ("even",)
    return None


def _first_odd(rows, at):
    """The lot of the first row that has the bit 1 at this mask; None if there is none."""
    for row in rows:
        if odd(row & at):
            return lot_of(row)
    return None


def left(book, wishes, part):
    """How many bits of the wishes the part lacks."""
    need_lots(wishes, book.size)
    need_lot(part, book.size)
    return len(_free_bits(book, wishes, part))


def _free_bits(book, wishes, part):
    """Rows, reduced, of the bits at the wishes that the words that are 0 on the part have."""
    ats = [mask_of(wish) for wish in wishes]
    return reduce_rows([bits_at(row, ats) for row in unseen(book.masks, mask_of(part))])


def fillings(book, wishes, part, word):
    """The rows of bits at the wishes of all words that show the same in the part as this one."""
    need_lots(wishes, book.size)
    need_lot(part, book.size)
    if not book.holds(word):
        raise BadLot(word)
    free = _free_bits(book, wishes, part)
    if 1 << len(free) > MOST_WORDS:
        raise TooMany(MOST_WORDS)
    own = bits_at(mask_of(word), [mask_of(wish) for wish in wishes])
    numbers = list(range(len(wishes)))
    return sorted([tuple([(own ^ change) >> k & 1 for k in numbers]) for change in span(free)])


def least_more(book, part, wish, prices):
    """(price, lot) of the cheapest offered places with which the part knows the wish, or None."""
    need_lot(part, book.size)
    need_lot(wish, book.size)
    if not _are_prices(prices, book.size):
        raise BadPrices(prices)
    offered = sorted(list(prices))
    rows, turns = _unseen_offer(book, mask_of(part), mask_of(wish), offered)
    costs = costs_of([prices[place] for place in offered])
    best = None
    for choice, cost in enumerate(costs):
        if (best is None or cost < costs[best]) and _shuts_out(rows, choice, turns):
            best = choice
    if best is None:
        return None
    return costs[best], tuple([offered[k] for k in lot_of(best)])


def _are_prices(value, size):
    """True if the value is a dict from at most 12 places to integers from 0 on."""
    if not isinstance(value, dict) or len(value) > MOST_OFFERED:
        return False
    for place, price in value.items():
        if not is_below(place, size) or not is_amount(price):
            return False
    return True


def _unseen_offer(book, part, wish, offered):
    """(rows, turns): what the words that are 0 on the part have at the offered places and the wish.

    Bit k of a row stands for offered[k], and the bit `turns` behind them for the wish. They are
    reduced once, so that the search goes over few and short rows.
    """
    behind = len(offered)
    hidden = unseen(book.masks, part)
    rows = [picked(row, offered) | odd(row & wish) << behind for row in hidden]
    return reduce_rows(rows), 1 << behind


def _shuts_out(rows, choice, turns):
    """True if no sum of the rows is 0 on the choice and has the bit `turns`: no twin is left."""
    return not any([row & turns for row in unseen(rows, choice)])


def same_known(book, one, other):
    """None if two parts know the same lots, otherwise ("first", word) or ("second", word)."""
    need_lot(one, book.size)
    need_lot(other, book.size)
    word = _hidden_from_one_alone(book, mask_of(one), mask_of(other))
    if word is not None:
        return "first", word
    word = _hidden_from_one_alone(book, mask_of(other), mask_of(one))
    if word is not None:
        return "second", word
    return None


def _hidden_from_one_alone(book, one, other):
    """A word that is 0 on the part `one` and not on the part `other`; None if there is none."""
    for row in unseen(book.masks, one):
        if row & other:
            return lot_of(row)
    return None
