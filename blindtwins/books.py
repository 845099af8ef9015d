"""Books: sets of words that have the word of noughts and with each two words their sum."""

from blindtwins.errors import BadLot, BadOrder, BadSize, TooMany, Unlike
from blindtwins.lots import is_between, is_lot, is_number, need_lot, need_lots, plus
from blindtwins.masks import ALL_PLACES, check_rows, cleared, lot_of, mask_of, odd
from blindtwins.masks import picked, reduce_rows, span, unseen

MOST_SIZE = 24
MOST_WORDS = 4096


def need_book_size(size):
    """Raises BadSize(size) unless it is a size that books may have."""
    if not is_between(size, 1, MOST_SIZE):
        raise BadSize(size)


class Book:
    """A book of `size` places, told by rows; `masks` are its reduced rows as masks."""

    def __init__(self, size, rows):
        need_book_size(size)
        need_lots(rows, size)
        self.size = size
        self.masks = tuple(reduce_rows([mask_of(row) for row in rows]))
        self.dim = len(self.masks)

    def __eq__(self, other):
        return isinstance(other, Book) and self.size == other.size and self.masks == other.masks

    def rows(self):
        """The reduced rows."""
        return [lot_of(mask) for mask in self.masks]

    def checks(self):
        """The reduced rows of the turned book."""
        return [lot_of(mask) for mask in check_rows(self.masks, self.size)]

    def holds(self, word):
        """True if it is a word of the book."""
        need_lot(word, self.size)
        return cleared(mask_of(word), self.masks, ALL_PLACES) == 0

    def is_check(self, lot):
        """True if each word of the book has the bit 0 at the lot."""
        need_lot(lot, self.size)
        at = mask_of(lot)
        return not any([odd(mask & at) for mask in self.masks])

    def tell_same(self, one, other):
        """True if each word of the book has the same bit at both lots."""
        need_lot(one, self.size)
        need_lot(other, self.size)
        return self.is_check(plus(one, other))

    def turned(self):
        """The book of the checks."""
        return Book(self.size, self.checks())

    def within(self, part):
        """The book of the words that have all their ones in the part."""
        need_lot(part, self.size)
        return _told(self.size, unseen(self.masks, ~mask_of(part)))

    def shown(self, part):
        """The book of the words with 0 put at all places outside of the part."""
        need_lot(part, self.size)
        inside = mask_of(part)
        return _told(self.size, [mask & inside for mask in self.masks])

    def on(self, part):
        """The book of what the words show in the part, with its places alone."""
        self._need_places(part)
        return _told(len(part), [picked(mask, part) for mask in self.masks])

    def under(self, part):
        """The book of the words within the part, with its places alone."""
        self._need_places(part)
        return _told(len(part), [picked(mask, part) for mask in self.within(part).masks])

    def join(self, other):
        """The book of all sums of a word of this book and one of the other."""
        if self.size != other.size:
            raise Unlike(other.size)
        return _told(self.size, self.masks + other.masks)

    def meet(self, other):
        """The book of the words that are in both."""
        # Turning exchanges both: the checks of the common words are sums of both books' checks.
        # A turned book has the size of its book, so join raises Unlike as it is due here.
        checks = self.turned().join(other.turned())
        return checks.turned()

    def beside(self, other):
        """The book of both side by side: the places of the other are put behind."""
        if self.size + other.size > MOST_SIZE:
            raise TooMany(MOST_SIZE)
        behind = [mask << self.size for mask in other.masks]
        return _told(self.size + other.size, list(self.masks) + behind)

    def moved(self, order):
        """The book in which place order[k] gets the number k."""
        if not _is_order(order, self.size):
            raise BadOrder(order)
        return _told(self.size, [picked(mask, order) for mask in self.masks])

    def with_sum(self, lot):
        """The book with one place more, whose bit is that of the word at the lot."""
        need_lot(lot, self.size)
        if self.size == MOST_SIZE:
            raise TooMany(MOST_SIZE)
        at = mask_of(lot)
        return _told(self.size + 1, [mask | odd(mask & at) << self.size for mask in self.masks])

    def words(self):
        """The list of all words, ascending."""
        if 1 << self.dim > MOST_WORDS:
            raise TooMany(MOST_WORDS)
        return sorted([lot_of(mask) for mask in span(self.masks)])

    def word_of(self, numbers):
        """The sum of the reduced rows with these indexes."""
        need_lot(numbers, self.dim)
        word = 0
        for number in numbers:
            word ^= self.masks[number]
        return lot_of(word)

    def _need_places(self, part):
        if not is_lot(part, self.size) or len(part) == 0:
            raise BadLot(part)


def _told(size, masks):
    """The book of this size that is told by these masks."""
    return Book(size, [lot_of(mask) for mask in masks])


def _is_order(value, size):
    """True if the value is a tuple that has each number below the size once."""
    if not isinstance(value, tuple) or not all([is_number(place) for place in value]):
        return False
    return sorted(value) == list(range(size))
