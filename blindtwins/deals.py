"""Deals: a book whose places are dealt to hands, secrets in it, and sums told in the open."""

from blindtwins.errors import BadGroup, BadHands, BadName, BadNames, BadSecrets, TooMany
from blindtwins.lots import MOST_LOTS, is_lot, need_lot
from blindtwins.masks import bits_at, blocking, certificate, check_rows, first_places, first_sum
from blindtwins.masks import knowing, least_chosen, lot_of, mask_of, odd, reduce_rows, unseen
from blindtwins.masks import with_bits

MOST_NAMES = 10
MOST_LETTERS = 12
MOST_TOLD = 40


class Deal:
    """A book, hands with their shares, secrets, and the lots of the sums that were told."""

    def __init__(self, book, hands, secrets):
        wrong = _wrong_names(hands, book.size)
        if wrong:
            raise BadHands(wrong[0])
        wrong = _wrong_names(secrets, book.size)
        if wrong:
            raise BadSecrets(wrong[0])
        self.book = book
        self.hands = dict(hands)
        self.secrets = dict(secrets)
        self.told = ()
        # A caller may change the dicts above; the deal itself goes by these.
        self._shares = dict(hands)
        self._wishes = dict(secrets)

    def __eq__(self, other):
        return (isinstance(other, Deal) and self.book == other.book and self._shares == other._shares
                and self._wishes == other._wishes and self.told == other.told)

    def knows(self, group, secret):
        """("sum", X, told) or ("twin", word): what the group knows of the secret."""
        self._need_group(group)
        self._need_secret(secret)
        size = self.book.size
        kind, mask = certificate(self._rows(), self._had(group), mask_of(self._wishes[secret]))
        if kind == "twin":
            return "twin", lot_of(mask)
        return "sum", lot_of(mask & first_places(size)), lot_of(mask >> size)

    def knows_fault(self, group, secret, answer):
        """None if the answer is one that `knows` may return, otherwise the first fault."""
        self._need_group(group)
        self._need_secret(secret)
        if not self._is_answer(answer):
            return ("form",)
        if answer[0] == "sum":
            return self._sum_fault(group, secret, answer[1], answer[2])
        return self._twin_fault(group, secret, answer[1])

    def left(self, group, names):
        """How many bits of the named secrets the group lacks."""
        self._need_group(group)
        if not _are_names_of(names, self._wishes):
            raise BadNames(names)
        # A name that comes again adds nothing.
        wishes = [mask_of(self._wishes[name]) for name in self._wishes if name in names]
        return len(reduce_rows([bits_at(row, wishes) for row in self._twins(group)]))

    def say(self, lot):
        """The deal in which the sum at this lot was told, too."""
        need_lot(lot, self.book.size)
        if len(self.told) == MOST_TOLD:
            raise TooMany(MOST_TOLD)
        return self._altered(self._shares, self.told + (lot,))

    def leave(self, name):
        """The deal without this hand."""
        self._need_hand(name)
        if len(self._shares) == 1:
            raise BadName(name)
        return self._altered(self._without(name), self.told)

    def hand_over(self, name, other):
        """The deal in which the hand `other` has the places of the hand `name`, which is left out."""
        self._need_hand(name)
        self._need_hand(other)
        if name == other:
            raise BadName(other)
        shares = self._without(name)
        shares[other] = lot_of(mask_of(self._shares[name]) | mask_of(self._shares[other]))
        return self._altered(shares, self.told)

    def least_groups(self, secret):
        """The ascending list of all least groups that know the secret."""
        names, flags = self._knowing_groups(secret)
        return least_chosen(flags, names)

    def least_blinding(self, secret):
        """The ascending list of all least groups such that all other hands do not know the secret."""
        names, flags = self._knowing_groups(secret)
        return least_chosen(blocking(flags), names)

    def agreed(self, hands, listeners):
        """The greatest number of lots that are common to the hands and unknown to the listeners."""
        return len(self.agreed_lots(hands, listeners))

    def agreed_lots(self, hands, listeners):
        """A longest list of lots that the hands know and of which the listeners know no sum."""
        self._need_hands_and_listeners(hands, listeners)
        twins = self._twins(listeners)
        lots = []
        rows = []
        for lot in self._common(hands):
            row = bits_at(lot, twins)
            if len(reduce_rows(rows + [row])) > len(rows):
                rows.append(row)
                lots.append(lot_of(lot))
        return lots

    def agreed_fault(self, hands, listeners, lots):
        """None if the hands know the lots and the listeners no sum of them, otherwise the first fault."""
        self._need_hands_and_listeners(hands, listeners)
        if not _are_lots(lots, self.book.size):
            return ("form",)
        masks = [mask_of(lot) for lot in lots]
        unknown = self._first_unknown(hands, masks)
        if unknown is not None:
            return unknown
        heard = _first_heard(self._twins(listeners), masks)
        if heard is not None:
            return "heard", heard
        return None

    def _need_group(self, group):
        if not _are_names_of(group, self._shares) or len(set(group)) < len(group):
            raise BadGroup(group)

    def _need_hands_and_listeners(self, hands, listeners):
        self._need_group(hands)
        if len(hands) == 0:
            raise BadGroup(hands)
        self._need_group(listeners)

    def _need_secret(self, name):
        if not _are_names_of([name], self._wishes):
            raise BadName(name)

    def _need_hand(self, name):
        if not _are_names_of([name], self._shares):
            raise BadName(name)

    def _altered(self, shares, told):
        """The deal with these shares and told lots, otherwise like this one."""
        deal = Deal(self.book, shares, self._wishes)
        deal.told = told
        return deal

    def _without(self, name):
        """A new dict of the shares without this hand's."""
        return {hand: self._shares[hand] for hand in self._shares if hand != name}

    def _rows(self):
        """Rows of the book, as masks, with their bits at the told lots behind the places."""
        return with_bits(self.book.masks, [mask_of(lot) for lot in self.told], self.book.size)

    def _places(self, group):
        """The mask of the places of the group's shares."""
        places = 0
        for name in group:
            places |= mask_of(self._shares[name])
        return places

    def _had(self, group):
        """What the group has, as a part of the places with the told lots behind them."""
        return self._places(group) | first_places(len(self.told)) << self.book.size

    def _twins(self, group):
        """Rows that tell the words that are 0 at all that the group has."""
        return unseen(self._rows(), self._had(group))

    def _knowing_groups(self, secret):
        """(names, flags): the hands, ascending, and the table of the choices that know the secret."""
        self._need_secret(secret)
        names = sorted(list(self._shares))
        parts = [self._places([name]) for name in names]
        return names, knowing(self._twins([]), parts, mask_of(self._wishes[secret]))

    def _common(self, hands):
        """Reduced rows of the lots that each of these hands knows alone."""
        # A hand knows a lot if none of its twins has the bit 1 there.
        twins = [row for name in hands for row in self._twins([name])]
        return check_rows(reduce_rows(twins), self.book.size)

    def _first_unknown(self, hands, lots):
        """("unknown", index, name) for the first lot and hand that does not know it, or None."""
        twins = {name: self._twins([name]) for name in hands}
        for index, lot in enumerate(lots):
            for name in hands:
                if any([odd(row & lot) for row in twins[name]]):
                    return "unknown", index, name
        return None

    def _is_answer(self, value):
        """True if the value has one of the two forms of an answer."""
        if not isinstance(value, tuple) or not 2 <= len(value) <= 3:
            return False
        if not is_lot(value[1], self.book.size):
            return False
        if len(value) == 2:
            return value[0] == "twin"
        return value[0] == "sum" and is_lot(value[2], len(self.told))

    def _sum_fault(self, group, secret, chosen, indexes):
        """The first fault of the chosen places and told lots."""
        outside = lot_of(mask_of(chosen) & ~self._places(group))
        if outside:
            return "part", outside[0]
        rest = mask_of(chosen) ^ mask_of(self._wishes[secret])
        for index in indexes:
            rest ^= mask_of(self.told[index])
        if not self.book.is_check(lot_of(rest)):
            return ("check",)
        return None

    def _twin_fault(self, group, secret, word):
        """The first fault of the word as a twin."""
        if not self.book.holds(word):
            return ("word",)
        mask = mask_of(word)
        seen = lot_of(mask & self._places(group))
        if seen:
            return "seen", seen[0]
        told = lot_of(bits_at(mask, [mask_of(lot) for lot in self.told]))
        if told:
            return "told", told[0]
        if not odd(mask & mask_of(self._wishes[secret])):
            return ("even",)
        return None


def _is_name(value):
    """True if the value is a string of 1 to 12 letters from a to z."""
    if not isinstance(value, str) or not 1 <= len(value) <= MOST_LETTERS:
        return False
    return all(["a" <= letter <= "z" for letter in value])


def _wrong_names(value, size):
    """[None] if it is no dict of 1 to 10 names; otherwise the names, ascending, without a lot."""
    if not isinstance(value, dict) or not 1 <= len(value) <= MOST_NAMES:
        return [None]
    if not all([_is_name(name) for name in value]):
        return [None]
    return sorted([name for name in value if not is_lot(value[name], size)])


def _are_names_of(value, table):
    """True if the value is a list of names of the table."""
    return isinstance(value, list) and all([isinstance(name, str) and name in table for name in value])


def _are_lots(value, size):
    """True if the value is a list of at most 60 lots of this size."""
    if not isinstance(value, list) or len(value) > MOST_LOTS:
        return False
    return all([is_lot(lot, size) for lot in value])


def _first_heard(twins, lots):
    """The first lot of indexes whose lots have a sum at which no twin has the bit 1, or None."""
    width = len(twins)
    rows = [bits_at(lot, twins) | 1 << (width + index) for index, lot in enumerate(lots)]
    sums = unseen(rows, first_places(width))
    if not sums:
        return None
    return lot_of(first_sum(reduce_rows([row >> width for row in sums])))
