"""The definitions of the document, word by word, over all words and lots of small sizes."""

from functools import lru_cache
from itertools import combinations


@lru_cache(None)
def all_lots(size):
    lots = [()]
    for place in range(size):
        lots += [lot + (place,) for lot in lots]
    return sorted(lots)


@lru_cache(None)
def add(one, other):
    return tuple(sorted(set(one) ^ set(other)))


@lru_cache(None)
def bit(word, lot):
    return len(set(word) & set(lot)) % 2


def add_all(lots):
    result = ()
    for lot in lots:
        result = add(result, lot)
    return result


def sums(rows):
    """All sums of some of the rows, formed one by one."""
    words = {()}
    for number in range(1, len(rows) + 1):
        for some in combinations(rows, number):
            words.add(add_all(some))
    return frozenset(words)


@lru_cache(None)
def all_books(size):
    """For each book of the size: a list of rows that tell it, and the set of its words."""
    found = {}
    for number in range(size + 1):
        for rows in combinations(all_lots(size)[1:], number):
            found.setdefault(sums(rows), list(rows))
    return [(rows, words) for words, rows in found.items()]


def parts_of(lot):
    return [tuple(some) for number in range(len(lot) + 1) for some in combinations(lot, number)]


def checks(size, words):
    return frozenset(lot for lot in all_lots(size) if all(bit(word, lot) == 0 for word in words))


def cut(word, part):
    return tuple(place for place in word if place in part)


def renumbered(word, part):
    return tuple(part.index(place) for place in word)


def zero_on(words, part):
    return frozenset(word for word in words if cut(word, part) == ())


def logarithm(number):
    """The exponent of a power of two."""
    assert number == 1 << (number.bit_length() - 1)
    return number.bit_length() - 1


def known_lots(size, words, part):
    """All lots that some lot within the part tells the same as."""
    turned = checks(size, words)
    return frozenset(add(lot, check) for lot in parts_of(part) for check in turned)


def lacking(wishes, known):
    """The number of wishes in a greatest list of them no sum of which is known."""
    for number in range(len(wishes), 0, -1):
        for some in combinations(wishes, number):
            all_sums = [add_all(few) for k in range(1, number + 1) for few in combinations(some, k)]
            if not any(lot in known for lot in all_sums):
                return number
    return 0


def least(lots):
    """Those of the lots (or tuples of names) that contain no other one, ascending."""
    return sorted(one for one in lots if not any(set(other) < set(one) for other in lots))


def without(one, other):
    return tuple(item for item in one if item not in other)


def union(lots):
    return tuple(sorted(set(item for lot in lots for item in lot)))


def partitions(places):
    """All lists of lots, not empty, without common places, that have all these places."""
    if not places:
        return [[]]
    first, rest = places[0], places[1:]
    found = []
    for some in parts_of(rest):
        for others in partitions(without(rest, some)):
            found.append([(first,) + some] + others)
    return found
