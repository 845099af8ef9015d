"""Points 10 and 11: ordinary books, edges, and that nothing that is passed changes."""

import unittest

from blindtwins.books import Book
from blindtwins.errors import BadLots, TooMany

from tests.values import ErrorCase, all_kinds


class TestTelling(ErrorCase):

    def test_example(self):
        book = Book(4, [(0, 1), (1, 2), (0, 2), (2, 3)])
        self.assertEqual((book.size, book.dim), (4, 3))
        self.assertEqual(book.rows(), [(0, 3), (1, 3), (2, 3)])
        self.assertEqual(book.checks(), [(0, 1, 2, 3)])
        self.assertEqual(book.within((0, 1, 2)).rows(), [(0, 2), (1, 2)])
        self.assertEqual(book.shown((0, 1)).rows(), [(0,), (1,)])

    def test_example_of_a_wrong_row(self):
        self.fails(BadLots, 1, Book, 3, [(0, 1), (1, 3)])

    def test_rows_are_reduced_in_whatever_order_they_come(self):
        rows = [(2, 3), (1, 2, 4), (0, 1), (0, 4), ()]
        expected = [(0, 4), (1, 4), (2,), (3,)]
        self.assertEqual(Book(5, rows).rows(), expected)
        self.assertEqual(Book(5, rows[::-1]).rows(), expected)
        self.assertEqual(Book(5, rows * 12).rows(), expected)

    def test_no_rows(self):
        book = Book(3, [])
        self.assertEqual((book.dim, book.rows(), book.words()), (0, [], [()]))
        self.assertEqual(book.checks(), [(0,), (1,), (2,)])
        self.assertEqual(Book(3, [()] * 60).dim, 0)
        self.assertEqual(book.word_of(()), ())

    def test_sizes_one_and_twenty_four(self):
        self.assertEqual([book.dim for book in (Book(1, []), Book(1, [(0,)]))], [0, 1])
        self.assertEqual(Book(1, [(0,)]).checks(), [])
        full = Book(24, [(place,) for place in range(24)])
        self.assertEqual((full.dim, full.checks(), full.turned()), (24, [], Book(24, [])))

    def test_sixty_rows(self):
        rows = [(place % 24,) for place in range(60)]
        self.assertEqual(Book(24, rows).dim, 24)
        self.fails(BadLots, -1, Book, 24, rows + [(0,)])

    def test_by_name(self):
        book = Book(rows=[(0, 1)], size=2)
        self.assertEqual((book.size, book.dim), (2, 1))
        self.assertTrue(book.holds(word=(0, 1)))
        self.assertTrue(book.is_check(lot=(0, 1)))
        self.assertTrue(book.tell_same(other=(1,), one=(0,)))
        self.assertEqual(book.within(part=(0,)).dim, 0)
        self.assertEqual(book.shown(part=(0,)).rows(), [(0,)])
        self.assertEqual(book.on(part=(1,)), Book(1, [(0,)]))
        self.assertEqual(book.under(part=(1,)), Book(1, []))
        self.assertEqual(book.join(other=Book(2, [(0,)])).dim, 2)
        self.assertEqual(book.meet(other=Book(2, [(0,)])).dim, 0)
        self.assertEqual(book.beside(other=Book(1, [(0,)])).dim, 2)
        self.assertEqual(book.moved(order=(1, 0)), book)
        self.assertEqual(book.with_sum(lot=(0,)).rows(), [(0, 1, 2)])
        self.assertEqual(book.word_of(numbers=(0,)), (0, 1))

    def test_answers_are_flags(self):
        book = Book(2, [(0, 1)])
        self.assertIs(book.holds((0, 1)), True)
        self.assertIs(book.holds((0,)), False)
        self.assertIs(book.is_check(()), True)
        self.assertIs(book.is_check((0,)), False)
        self.assertIs(book.tell_same((0,), (1,)), True)
        self.assertIs(book.tell_same((0,), ()), False)
        self.assertIs(Book(2, []).is_check((0,)), True)


class TestEqual(unittest.TestCase):

    def test_the_same_words(self):
        self.assertTrue(Book(3, [(0, 1), (1, 2)]) == Book(3, [(0, 2), (0, 1), (1, 2)]))
        self.assertFalse(Book(3, [(0, 1), (1, 2)]) != Book(3, [(0, 2), (0, 1)]))

    def test_unlike_words_or_sizes(self):
        self.assertFalse(Book(3, [(0, 1)]) == Book(3, [(0, 2)]))
        self.assertFalse(Book(3, [(0, 1)]) == Book(3, [(0, 1), (1, 2)]))
        self.assertFalse(Book(3, [(0, 1)]) == Book(4, [(0, 1)]))
        self.assertTrue(Book(3, []) != Book(2, []))

    def test_equal_to_nothing_else(self):
        book = Book(3, [(0, 1)])
        others = [value for value in all_kinds() if not isinstance(value, Book)]
        for value in others + [book.rows(), (3, book.rows()), book.words()]:
            self.assertIs(book == value, False)
            self.assertIs(book != value, True)


class TestEdgesOfMethods(ErrorCase):

    def test_empty_part_and_the_whole(self):
        book = Book(4, [(0, 1), (2, 3)])
        whole = (0, 1, 2, 3)
        self.assertEqual([book.within(()), book.shown(())], [Book(4, []), Book(4, [])])
        self.assertEqual([book.within(whole), book.shown(whole)], [book, book])
        self.assertEqual([book.on(whole), book.under(whole)], [book, book])

    def test_on_and_under_have_fewer_places(self):
        book = Book(5, [(0, 1, 4), (1, 3)])
        self.assertEqual(book.on((1, 4)), Book(2, [(0, 1), (0,)]))
        self.assertEqual(book.under((1, 3)), Book(2, [(0, 1)]))
        self.assertEqual(book.under((4,)), Book(1, []))

    def test_moved(self):
        book = Book(3, [(0, 1)])
        self.assertEqual(book.moved((2, 0, 1)).rows(), [(1, 2)])
        self.assertEqual(book.moved((1, 2, 0)).rows(), [(0, 2)])
        self.assertEqual(Book(3, [(0,)]).moved((2, 0, 1)).rows(), [(1,)])

    def test_beside_up_to_twenty_four_places(self):
        both = Book(2, [(0, 1)]).beside(Book(3, [(0, 2), (1,)]))
        self.assertEqual((both.size, both.rows()), (5, [(0, 1), (2, 4), (3,)]))
        full = Book(12, [(place,) for place in range(12)])
        self.assertEqual(full.beside(full).dim, 24)
        self.fails(TooMany, 24, full.beside, Book(13, []))
        self.fails(TooMany, 24, Book(1, []).beside, Book(24, []))

    def test_with_sum_up_to_twenty_four_places(self):
        book = Book(23, [(0, 22), (1,)])
        self.assertEqual(book.with_sum((22,)).rows(), [(0, 22, 23), (1,)])
        self.assertEqual(book.with_sum(()).rows(), [(0, 22), (1,)])
        self.assertEqual(book.with_sum((0, 22)).size, 24)
        self.fails(TooMany, 24, Book(24, []).with_sum, ())

    def test_join_of_two_great_books(self):
        full = Book(24, [(place,) for place in range(24)])
        self.assertEqual(full.join(full), full)
        self.assertEqual(full.meet(full), full)

    def test_words_up_to_4096(self):
        words = Book(13, [(place,) for place in range(12)]).words()
        self.assertEqual(len(words), 4096)
        self.assertEqual(words[:4], [(), (0,), (0, 1), (0, 1, 2)])
        self.assertEqual(words, sorted(words))
        self.fails(TooMany, 4096, Book(13, [(place,) for place in range(13)]).words)
        self.fails(TooMany, 4096, Book(24, [(place,) for place in range(24)]).words)

    def test_word_of(self):
        book = Book(4, [(0, 1), (1, 2), (2, 3)])
        self.assertEqual(book.word_of((0, 2)), (0, 2))
        self.assertEqual(book.word_of((0, 1, 2)), (0, 1, 2, 3))


class TestNothingChanges(unittest.TestCase):

    def test_rows_that_are_passed(self):
        rows = [(0, 1), (1, 2)]
        book = Book(3, rows)
        self.assertEqual(rows, [(0, 1), (1, 2)])
        rows.append((2,))
        rows[0] = ()
        self.assertEqual((book.dim, book.rows()), (2, [(0, 2), (1, 2)]))

    def test_lists_that_are_returned(self):
        book = Book(3, [(0, 1)])
        for method in (book.rows, book.checks, book.words):
            expected = list(method())
            method().clear()
            method().append(None)
            self.assertEqual(method(), expected)
            self.assertIsNot(method(), method())

    def test_books_stay(self):
        book, other = Book(3, [(0, 1), (2,)]), Book(3, [(0,)])
        book.turned(), book.within((0,)), book.shown((0,)), book.on((0,)), book.under((0,))
        book.join(other), book.meet(other), book.beside(other), book.moved((2, 1, 0))
        book.with_sum((0,)), book.word_of((0,))
        self.assertEqual((book.size, book.dim, book.rows()), (3, 2, [(0, 1), (2,)]))
        self.assertEqual((other.size, other.dim, other.rows()), (3, 1, [(0,)]))


if __name__ == "__main__":
    unittest.main()
