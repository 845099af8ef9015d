"""Small books against the definitions themselves: all words, all parts, all lots."""

import unittest

from blindtwins.books import Book

from tests import plain


def small_books():
    """(size, rows, words, book) for all books of 1 to 4 places."""
    for size in (1, 2, 3, 4):
        for rows, words in plain.all_books(size):
            yield size, rows, words, Book(size, rows)


def words_of(book):
    return frozenset(book.words())


class TestRows(unittest.TestCase):

    def test_there_are_as_many_books_as_there_must_be(self):
        self.assertEqual([len(plain.all_books(size)) for size in (1, 2, 3, 4)], [2, 5, 16, 67])

    def test_words_are_all_sums_of_the_rows(self):
        for size, rows, words, book in small_books():
            self.assertEqual(book.words(), sorted(words))
            self.assertEqual(len(words), 2 ** book.dim)

    def test_reduced_rows(self):
        for size, rows, words, book in small_books():
            reduced = book.rows()
            firsts = [row[0] for row in reduced]
            self.assertEqual(len(reduced), book.dim)
            self.assertEqual(plain.sums(reduced), words)
            self.assertEqual(firsts, sorted(firsts))
            for first in firsts:
                self.assertEqual(sum(first in row for row in reduced), 1)

    def test_other_rows_of_the_same_words(self):
        for size, rows, words, book in small_books():
            again = Book(size, sorted(words, reverse=True))
            self.assertTrue(again == book)
            self.assertEqual(again.rows(), book.rows())

    def test_equal_just_if_size_and_words_are(self):
        books = list(small_books())
        for size, _, words, book in books:
            for size2, _, words2, other in books:
                self.assertIs(book == other, (size, words) == (size2, words2))

    def test_word_of(self):
        for size, rows, words, book in small_books():
            reduced = book.rows()
            for numbers in plain.all_lots(book.dim):
                expected = plain.add_all([reduced[number] for number in numbers])
                self.assertEqual(book.word_of(numbers), expected)


class TestChecks(unittest.TestCase):

    def test_turned_book(self):
        for size, rows, words, book in small_books():
            turned = book.turned()
            self.assertEqual(words_of(turned), plain.checks(size, words))
            self.assertEqual(turned.rows(), book.checks())
            self.assertEqual((turned.size, turned.dim + book.dim), (size, size))
            self.assertEqual(turned.turned(), book)

    def test_single_lots(self):
        for size, rows, words, book in small_books():
            turned = plain.checks(size, words)
            for lot in plain.all_lots(size):
                self.assertIs(book.holds(lot), lot in words)
                self.assertIs(book.is_check(lot), lot in turned)

    def test_tell_same(self):
        for size, rows, words, book in small_books():
            for one in plain.all_lots(size):
                for other in plain.all_lots(size):
                    same = all(plain.bit(word, one) == plain.bit(word, other) for word in words)
                    self.assertIs(book.tell_same(one, other), same)


class TestParts(unittest.TestCase):

    def test_within_and_shown(self):
        for size, rows, words, book in small_books():
            for part in plain.all_lots(size):
                inner = {word for word in words if set(word) <= set(part)}
                cut = {plain.cut(word, part) for word in words}
                self.assertEqual(words_of(book.within(part)), inner)
                self.assertEqual(words_of(book.shown(part)), cut)
                self.assertEqual((book.within(part).size, book.shown(part).size), (size, size))

    def test_on_and_under(self):
        for size, rows, words, book in small_books():
            for part in plain.all_lots(size)[1:]:
                inner = {word for word in words if set(word) <= set(part)}
                cut = {plain.cut(word, part) for word in words}
                on, under = book.on(part), book.under(part)
                self.assertEqual((on.size, under.size), (len(part), len(part)))
                self.assertEqual(words_of(on), {plain.renumbered(word, part) for word in cut})
                self.assertEqual(words_of(under), {plain.renumbered(word, part) for word in inner})

    def test_facts_of_turning(self):
        for size, rows, words, book in small_books():
            for part in plain.all_lots(size)[1:]:
                checks = {lot for lot in plain.checks(size, words) if set(lot) <= set(part)}
                self.assertEqual(words_of(book.turned().within(part)), checks)
                self.assertEqual(book.on(part).turned(), book.turned().under(part))


class TestOtherBooks(unittest.TestCase):

    def test_join_and_meet(self):
        for size in (1, 2, 3, 4):
            books = [(words, Book(size, rows)) for rows, words in plain.all_books(size)]
            for words, book in books:
                for words2, other in books:
                    joined = {plain.add(one, two) for one in words for two in words2}
                    self.assertEqual(words_of(book.join(other)), joined)
                    self.assertEqual(words_of(book.meet(other)), words & words2)
                    turned = book.turned().meet(other.turned())
                    self.assertEqual(book.join(other).turned(), turned)

    def test_beside(self):
        books = [book for book in small_books() if book[0] < 4]
        for size, _, words, book in books:
            for size2, _, words2, other in books:
                behind = [tuple(place + size for place in word) for word in words2]
                both = book.beside(other)
                self.assertEqual(both.size, size + size2)
                self.assertEqual(words_of(both), {one + two for one in words for two in behind})

    def test_moved(self):
        for size, rows, words, book in small_books():
            for lot in plain.all_lots(size):
                order = lot[::-1] + tuple(set(range(size)) - set(lot))
                moved = {tuple(sorted(plain.renumbered(word, order))) for word in words}
                self.assertEqual(words_of(book.moved(order)), moved)

    def test_with_sum(self):
        for size, rows, words, book in small_books():
            for lot in plain.all_lots(size):
                longer = {word + (size,) * plain.bit(word, lot) for word in words}
                self.assertEqual(book.with_sum(lot).size, size + 1)
                self.assertEqual(words_of(book.with_sum(lot)), longer)


if __name__ == "__main__":
    unittest.main()
