"""Counts: how many words of a book have so many ones, and how many parts of so many places know a place."""

from blindtwins.books import need_book_size
from blindtwins.errors import BadCount, BadList, TooMany
from blindtwins.lots import is_amount, is_between, need_place
from blindtwins.masks import knowing, ones, span

MOST_PLACES = 14


def weights(book):
    """For each number from 0 to the size: how many words of the book have so many ones."""
    if 2 * book.dim <= book.size:
        return _counted(book)
    # The turned book has fewer words, and its list tells this book's.
    turned = book.turned()
    return [number >> turned.dim for number in _turned_sums(book.size, _counted(turned))]


def turned_weights(size, dim, weights):
    """The list of the turned book, out of the list of a book of this size and dim."""
    need_book_size(size)
    if not is_between(dim, 0, size):
        raise BadCount(dim)
    if not _may_be_weights(size, dim, weights):
        raise BadList(weights)
    sums = _turned_sums(size, weights)
    if any([number < 0 or number % (1 << dim) != 0 for number in sums]):
        raise BadList(weights)
    return [number >> dim for number in sums]


def knowing_counts(book, place):
    """For each number a below the size: how many parts of a places without this one know it."""
    need_place(place, book.size)
    if book.size > MOST_PLACES:
        raise TooMany(MOST_PLACES)
    others = [1 << other for other in range(book.size) if other != place]
    counts = [0] * book.size
    for choice, flag in enumerate(knowing(book.masks, others, 1 << place)):
        if flag:
            counts[ones(choice)] += 1
    return counts


def _counted(book):
    """The weights of a book, word by word."""
    counts = [0] * (book.size + 1)
    for word in span(book.masks):
        counts[ones(word)] += 1
    return counts


def _may_be_weights(size, dim, value):
    """True if the value is a list of size + 1 integers from 0 on that sum to the number of words."""
    if not isinstance(value, list) or len(value) != size + 1:
        return False
    return all([is_amount(number) for number in value]) and sum(value) == 1 << dim


def _turned_sums(size, numbers):
    """The list of the turned book, times the number of words of the book of this list."""
    sums = [0] * (size + 1)
    for k, number in enumerate(numbers):
        for j, coefficient in enumerate(_coefficients(k, size - k)):
            sums[j] += number * coefficient
    return sums


def _coefficients(minus, plus):
    """The coefficients of (1 - z) ** minus * (1 + z) ** plus, those of 1 first."""
    found = [1]
    for sign in [-1] * minus + [1] * plus:
        found = [one + sign * other for one, other in zip(found + [0], [0] + found)]
    return found
