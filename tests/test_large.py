"""Books of 24 places with 60 rows: right answers, each call within a few seconds."""

import random
import time
import unittest

from blindtwins.books import Book
from blindtwins.known import fillings, hide, knows, knows_fault, least_more, left, same_known, see
from blindtwins.lots import plus, total

from tests.plain import bit

SECONDS = 3
WHOLE = tuple(range(24))


def within_seconds(call, *args):
    start = time.perf_counter()
    result = call(*args)
    taken = time.perf_counter() - start
    if taken > SECONDS:
        raise AssertionError(f"{call.__name__} took {taken} seconds")
    return result


def some_lot(source, places, number):
    return tuple(sorted(source.sample(places, number)))


def dense_rows(source, dim):
    """60 lots of 24 places that tell a book of at most this dim, the first places among them."""
    first = [some_lot(source, WHOLE, 12) for _ in range(dim)]
    more = [plus(source.choice(first), source.choice(first)) for _ in range(60 - dim)]
    return first + more


def large_books():
    source = random.Random(24)
    for dim in (1, 6, 12, 13, 18, 24):
        yield source, Book(24, dense_rows(source, dim))
    yield source, Book(24, [some_lot(source, WHOLE, 3) for _ in range(60)])
    yield source, Book(24, [(place, place + 1) for place in range(23)])
    yield source, Book(24, [(place,) for place in WHOLE])
    yield source, Book(24, [()] * 60)


class TestLarge(unittest.TestCase):

    def test_books(self):
        for source, book in large_books():
            again = within_seconds(Book, 24, book.rows() + [total(book.rows())])
            self.assertEqual(again, book)
            turned = within_seconds(book.turned)
            self.assertEqual(turned.dim + book.dim, 24)
            self.assertEqual(within_seconds(turned.turned), book)
            self.assertTrue(all(not bit(row, lot) for row in book.rows() for lot in turned.rows()))
            self.assertEqual(within_seconds(book.join, turned).turned(), book.meet(turned))
            self.assertEqual(within_seconds(book.moved, WHOLE[::-1]).moved(WHOLE[::-1]), book)
            for row in book.rows():
                self.assertTrue(within_seconds(book.holds, row))
                self.assertTrue(within_seconds(turned.is_check, row))
            if book.dim <= 12:
                words = within_seconds(book.words)
                self.assertEqual((len(words), words), (2 ** book.dim, sorted(set(words))))

    def test_parts(self):
        for source, book in large_books():
            for number in (0, 1, 6, 12, 18, 23, 24):
                part = some_lot(source, WHOLE, number)
                rest = tuple(place for place in WHOLE if place not in part)
                self.assertEqual(within_seconds(book.shown, part).dim, see(book, part))
                self.assertEqual(within_seconds(book.within, rest).dim, hide(book, part))
                self.assertEqual(see(book.turned(), rest) + hide(book, part), len(rest))
                if part:
                    turned = within_seconds(book.on, part).turned()
                    self.assertEqual(turned, within_seconds(book.turned().under, part))

    def test_knowing(self):
        kinds = []
        for source, book in large_books():
            for number in (0, 1, 6, 12, 18, 23, 24):
                part = some_lot(source, WHOLE, number)
                for wish in (some_lot(source, WHOLE, 1), some_lot(source, WHOLE, 12), WHOLE):
                    answer = within_seconds(knows, book, part, wish)
                    self.assertIsNone(within_seconds(knows_fault, book, part, wish, answer))
                    self.assertEqual(left(book, [wish], part), int(answer[0] == "twin"))
                    kinds.append(answer[0])
        self.assertGreater(min(kinds.count("sum"), kinds.count("twin")), 20)

    def test_wishes(self):
        for source, book in large_books():
            wishes = [some_lot(source, WHOLE, 5) for _ in range(60)]
            lacks = within_seconds(left, book, wishes, ())
            self.assertLessEqual(lacks, book.dim)
            if lacks <= 12:
                found = within_seconds(fillings, book, wishes, (), ())
                self.assertEqual((len(found), found), (2 ** lacks, sorted(set(found))))
            self.assertEqual(left(book, [(place,) for place in WHOLE], ()), book.dim)

    def test_least_more(self):
        for source, book in large_books():
            for number in (0, 6, 12):
                part = some_lot(source, WHOLE, number)
                rest = [place for place in WHOLE if place not in part]
                offered = some_lot(source, rest, min(12, len(rest)))
                prices = {place: source.randrange(1, 9) for place in offered}
                wish = some_lot(source, WHOLE, 2)
                found = within_seconds(least_more, book, part, wish, prices)
                everything = tuple(sorted(part + offered))
                self.assertEqual(found is None, knows(book, everything, wish)[0] == "twin")
                if found is not None:
                    self.check_least(book, part, wish, prices, found)

    def check_least(self, book, part, wish, prices, found):
        price, lot = found
        both = tuple(sorted(part + lot))
        self.assertEqual(price, sum(prices[place] for place in lot))
        self.assertEqual(knows(book, both, wish)[0], "sum")
        for place in lot:
            fewer = tuple(other for other in both if other != place)
            self.assertEqual(knows(book, fewer, wish)[0], "twin")

    def test_same_known(self):
        for source, book in large_books():
            one, other = some_lot(source, WHOLE, 12), some_lot(source, WHOLE, 12)
            found = within_seconds(same_known, book, one, other)
            if found is None:
                self.assertEqual(see(book, one), see(book, other))
            else:
                unseen, seen = (one, other) if found[0] == "first" else (other, one)
                self.assertTrue(book.holds(found[1]))
                self.assertFalse(set(found[1]) & set(unseen))
                self.assertTrue(set(found[1]) & set(seen))

    def test_a_long_list_of_lots(self):
        self.assertEqual(within_seconds(total, [WHOLE, (0,)] * 20001), WHOLE[1:])


if __name__ == "__main__":
    unittest.main()
