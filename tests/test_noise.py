"""Points 41 and 42: the examples, ordinary inputs, edges, wrong inputs, and what stays as it was."""

import unittest

from blindtwins.books import Book
from blindtwins.errors import BadCount, BadLot, BadLots, NoWord, TooMany
from blindtwins.noise import Noise, ask_again, greatest, surely, up_to, words_of

from tests.values import ErrorCase, no_integers, no_lists, no_lots

WHOLE = tuple(range(24))


def three():
    return Book(3, [(0, 1, 2)])


def seven():
    """The words of 7 bits in which one turned bit is told."""
    return Book(7, [(0, 1, 2), (0, 3, 4), (1, 3, 5), (0, 1, 3, 6)])


def whole(size, places=24):
    """The book of all words with ones in the first places alone."""
    return Book(places, [(place,) for place in range(size)])


class TestExamples(ErrorCase):

    def test_of_the_document(self):
        book = Book(3, [(0, 1, 2)])
        self.assertIsNone(surely(up_to(book, 1)))
        self.assertEqual(words_of(up_to(book, 1), (0, 1), ()), [(0, 1, 2)])
        self.assertEqual(words_of(up_to(book, 1), (0,), (1,)), [(), (0, 1, 2)])
        self.assertEqual(greatest(book), (1, (0, 1, 2)))

    def test_by_name(self):
        noise = Noise(patterns=[(0,), (1,), (2,)], book=three())
        self.assertEqual(up_to(number=1, book=three()).patterns, noise.patterns)
        self.assertIsNone(surely(noise=noise))
        self.assertEqual(words_of(silent=(1,), came=(0,), noise=noise), [(), (0, 1, 2)])
        self.assertEqual(ask_again(silent=(), noise=noise, came=(0,)), (0, ()))
        self.assertEqual(greatest(book=three()), (1, (0, 1, 2)))


class TestNoise(ErrorCase):

    def test_attributes(self):
        book, patterns = three(), [(0, 1), (), (0, 1)]
        noise = Noise(book, patterns)
        self.assertIs(noise.book, book)
        self.assertEqual(noise.patterns, patterns)
        self.assertIsNot(noise.patterns, patterns)

    def test_numbers_of_patterns(self):
        for number in (1, 60):
            self.assertEqual(len(Noise(three(), [(0,)] * number).patterns), number)
        for number in (0, 61):
            self.fails(BadLots, -1, Noise, three(), [(0,)] * number)
        self.fails(BadLots, -1, Noise, three(), [None] * 61)

    def test_wrong_patterns(self):
        for value in no_lists():
            self.fails(BadLots, -1, Noise, three(), value)
        for lot in no_lots(3):
            self.fails(BadLots, 0, Noise, three(), [lot, None])
            self.fails(BadLots, 1, Noise, three(), [(0,), lot])


class TestUpTo(ErrorCase):

    def test_patterns(self):
        self.assertEqual(up_to(three(), 0).patterns, [()])
        self.assertEqual(up_to(three(), 2).patterns, [(0, 1), (0, 2), (1, 2)])
        self.assertEqual(up_to(three(), 3).patterns, [(0, 1, 2)])
        self.assertEqual(up_to(three(), 1).book, three())

    def test_sixty_lots_and_more(self):
        self.assertEqual(len(up_to(whole(2), 1).patterns), 24)
        self.assertEqual(len(up_to(whole(2), 23).patterns), 24)
        # Of 6 places 20 lots have 3, of 8 places 56 have 3, of 9 places 84; of 11 places 55 have 2, of 12 66.
        for size, number, many in ((6, 3, 20), (8, 3, 56), (8, 5, 56), (11, 2, 55), (11, 9, 55)):
            self.assertEqual(len(up_to(Book(size, []), number).patterns), many)
        for size, number in ((9, 3), (8, 4), (12, 2), (12, 10), (24, 2), (24, 12), (24, 22)):
            self.fails(TooMany, 60, up_to, Book(size, []), number)

    def test_wrong_numbers(self):
        for size in (1, 3, 24):
            self.fails_for_all(BadCount, no_integers(0, size), lambda number: up_to(Book(size, []), number))


class TestSurely(ErrorCase):

    def test_least_pair(self):
        book = Book(4, [(0, 1), (2, 3)])
        self.assertIsNone(surely(Noise(book, [(0,), (2,)])))
        self.assertEqual(surely(Noise(book, [(0,), (2,), (3,), (1,)])), (0, 3, (0, 1)))
        self.assertEqual(surely(Noise(book, [(0,), (2,), (3,)])), (1, 2, (2, 3)))
        self.assertEqual(surely(Noise(book, [(0,), (2,), (2, 3), (1,)])), (0, 2, (2, 3)))
        self.assertEqual(surely(Noise(book, [(2, 3)])), (0, 0, (2, 3)))

    def test_dim_0(self):
        self.assertIsNone(surely(up_to(Book(5, []), 5)))

    def test_one_turned_bit_of_seven(self):
        self.assertIsNone(surely(up_to(seven(), 1)))
        self.assertEqual(surely(up_to(seven(), 2))[:2], (0, 1))


class TestWordsOf(ErrorCase):

    def test_what_silent_places_have_means_nothing(self):
        noise = up_to(seven(), 1)
        for came in ((), (0,), (0, 1), (1,)):
            self.assertEqual(words_of(noise, came, (0, 1)), words_of(noise, (), (0, 1)))
        self.assertEqual(words_of(noise, (0, 1), (0, 1)), [(), (0, 1, 2)])

    def test_all_silent(self):
        self.assertEqual(words_of(up_to(seven(), 0), (3,), tuple(range(7))), seven().words())

    def test_none_left(self):
        self.assertEqual(words_of(up_to(three(), 0), (0,), ()), [])

    def test_too_many(self):
        noise = Noise(whole(12), [()])
        self.assertEqual(words_of(noise, (3,), ()), [(3,)])
        noise = Noise(whole(13), [()])
        for function in (words_of, ask_again):
            self.fails(TooMany, 4096, function, noise, (3,), ())
            self.fails(BadLot, (24,), function, noise, (3,), (24,))

    def test_wrong_lots(self):
        for function in (words_of, ask_again):
            for noise in (up_to(three(), 1), up_to(three(), 0)):
                self.fails_for_all(BadLot, no_lots(3), lambda came: function(noise, came, None))
                self.fails_for_all(BadLot, no_lots(3), lambda silent: function(noise, (0,), silent))


class TestAskAgain(ErrorCase):

    def test_one_word_left(self):
        self.assertEqual(ask_again(up_to(three(), 1), (0, 1), ()), (0, ()))

    def test_two_words_left(self):
        number, lot = ask_again(up_to(three(), 1), (0,), (1,))
        self.assertEqual((number, len(lot)), (1, 1))

    def test_no_word_left(self):
        self.fails(NoWord, None, ask_again, up_to(three(), 0), (0,), ())

    def test_sixteen_words_and_more(self):
        # Of the first four places all words are left.
        self.assertEqual(ask_again(Noise(whole(4), [(0, 1, 2, 3)]), (), ()), (4, (0, 1, 2, 3)))
        # The word of noughts, and those of one place.
        noise = Noise(whole(12), [(place,) for place in range(12)])
        self.assertEqual(ask_again(noise, (), ()), (12, tuple(range(12))))
        # Eight words lie in the first pattern, and one more in each other one.
        patterns = [(0, 1, 2), (3,), (4,), (5,), (6,), (7,), (8,), (9,), (10,), (11,)]
        self.assertEqual(len(words_of(Noise(whole(12), patterns[:9]), (), ())), 16)
        number, lot = ask_again(Noise(whole(12), patterns[:9]), (), ())
        self.assertEqual((number, lot), (11, tuple(range(11))))
        self.assertEqual(len(words_of(Noise(whole(12), patterns), (), ())), 17)
        self.fails(TooMany, 16, ask_again, Noise(whole(12), patterns), (), ())
        self.fails(TooMany, 16, ask_again, Noise(whole(12), [WHOLE]), (), ())


class TestGreatest(ErrorCase):

    def test_numbers(self):
        self.assertEqual(greatest(Book(1, [(0,)])), (0, (0,)))
        self.assertEqual(greatest(Book(2, [(0, 1)])), (0, (0, 1)))
        self.assertEqual(greatest(Book(24, [WHOLE])), (11, WHOLE))
        number, word = greatest(seven())
        self.assertEqual((number, len(word)), (1, 3))
        self.assertEqual(greatest(Book(5, [(0, 1, 2, 3, 4)])), (2, (0, 1, 2, 3, 4)))

    def test_dim_0(self):
        for size in (1, 24):
            self.assertEqual(greatest(Book(size, [])), (size, None))

    def test_too_many(self):
        self.assertEqual(greatest(whole(12))[0], 0)
        for dim in (13, 24):
            self.fails(TooMany, 4096, greatest, whole(dim))


class TestNothingChanges(ErrorCase):

    def test_lists_that_are_passed(self):
        patterns = [(0,), (1,)]
        noise = Noise(three(), patterns)
        patterns.append((0, 1, 2))
        self.assertEqual((noise.patterns, surely(noise)), ([(0,), (1,)], None))

    def test_what_a_caller_does_with_the_attribute(self):
        noise = Noise(three(), [(0,), (1,)])
        noise.patterns.append((0, 1, 2))
        self.assertIsNone(surely(noise))
        self.assertEqual(words_of(noise, (0,), ()), [()])
        self.assertEqual(ask_again(noise, (0,), ()), (0, ()))
        noise = up_to(three(), 1)
        noise.patterns.clear()
        self.assertEqual(words_of(noise, (0,), ()), [()])
        self.assertEqual(len(up_to(three(), 1).patterns), 3)

    def test_lists_that_are_returned(self):
        noise = up_to(three(), 1)
        words_of(noise, (0,), (1,)).clear()
        self.assertEqual(words_of(noise, (0,), (1,)), [(), (0, 1, 2)])

    def test_noise_never_changes(self):
        noise = up_to(three(), 1)
        surely(noise)
        words_of(noise, (0,), (1,))
        ask_again(noise, (0,), (1,))
        self.assertEqual((noise.book, noise.patterns), (three(), [(0,), (1,), (2,)]))


if __name__ == "__main__":
    unittest.main()
