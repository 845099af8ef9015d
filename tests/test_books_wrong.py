"""Point 11: wrong inputs, and which error comes first."""

import unittest

from blindtwins.books import Book
from blindtwins.errors import BadLot, BadLots, BadOrder, BadSize, Unlike

from tests.values import ErrorCase, all_kinds, no_lots, plainly_lot, plainly_number

FULL = Book(24, [(place,) for place in range(24)])


class TestConstructor(ErrorCase):

    def test_wrong_sizes(self):
        allowed = range(1, 25)
        wrong = [size for size in all_kinds() if not (plainly_number(size) and size in allowed)]
        self.fails_for_all(BadSize, wrong, lambda size: Book(size, []))
        self.fails_for_all(BadSize, wrong, lambda size: Book(size, None))

    def test_rows_that_are_no_list(self):
        for rows in all_kinds():
            if type(rows) is not list or len(rows) > 60:
                with self.subTest(kind=type(rows).__name__):
                    self.fails(BadLots, -1, Book, 3, rows)

    def test_wrong_rows(self):
        for size in (1, 3, 24):
            for row in no_lots(size):
                with self.subTest(size=size, kind=type(row).__name__):
                    self.fails(BadLots, 0, Book, size, [row, row])
                    self.fails(BadLots, 59, Book, size, [(0,)] * 59 + [row])
                    self.fails(BadLots, -1, Book, size, [row] + [(0,)] * 60)

    def test_first_wrong_row(self):
        self.fails(BadLots, 1, Book, 3, [(0,), (3,), (1,), None])


class TestLots(ErrorCase):

    def test_methods_with_one_lot(self):
        for size in (1, 3, 24):
            book = Book(size, [(0,)])
            methods = [book.holds, book.is_check, book.within, book.shown, book.on, book.under]
            for method in methods + [book.with_sum]:
                with self.subTest(method=method.__name__, size=size):
                    self.fails_for_all(BadLot, no_lots(size), method)

    def test_on_and_under_want_places(self):
        empty = ()
        self.fails(BadLot, empty, Book(3, []).on, empty)
        self.fails(BadLot, empty, Book(3, []).under, empty)

    def test_tell_same(self):
        book = Book(3, [(0, 1)])
        for value in no_lots(3):
            self.fails(BadLot, value, book.tell_same, value, (0,))
            self.fails(BadLot, value, book.tell_same, (0,), value)
            self.fails(BadLot, value, book.tell_same, value, None)

    def test_a_wrong_lot_goes_ahead_of_too_many(self):
        wrong = (24,)
        self.fails(BadLot, wrong, FULL.with_sum, wrong)

    def test_word_of_counts_the_rows(self):
        for rows in ([], [(0, 1)], [(0, 1), (2, 3), (4,)]):
            book = Book(5, rows)
            self.fails_for_all(BadLot, no_lots(book.dim), book.word_of)
        for value in all_kinds():
            if plainly_lot(value, 3):
                self.assertTrue(Book(5, [(0, 1), (2, 3), (4,)]).holds(book.word_of(value)))


class TestOtherErrors(ErrorCase):

    def test_orders(self):
        book = Book(2, [(0, 1)])
        near = [(0,), (0, 0), (1, 1), (0, 2), (-1, 0), (0, 1, 2), [0, 1], [1, 0]]
        flags = [(False, 1), (0, True), (True, 0), (1, False)]
        others = [value for value in all_kinds() if value not in ((0, 1), (1, 0))]
        self.fails_for_all(BadOrder, near + flags + others, book.moved)
        self.fails_for_all(BadOrder, [(0,) * 24, tuple(range(25)), tuple(range(23))], FULL.moved)
        for order in ((0, 1), (1, 0)):
            self.assertEqual(book.moved(order), book)

    def test_unlike_sizes(self):
        self.fails(Unlike, 4, Book(3, [(0,)]).join, Book(4, [(0,)]))
        self.fails(Unlike, 4, Book(3, [(0,)]).meet, Book(4, [(0,)]))
        self.fails(Unlike, 1, FULL.join, Book(1, []))
        self.fails(Unlike, 1, FULL.meet, Book(1, []))


if __name__ == "__main__":
    unittest.main()
