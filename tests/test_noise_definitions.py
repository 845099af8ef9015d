"""Points 41 and 42 against the definitions themselves: all words, all ways in which bits are turned."""

import random
import unittest
from itertools import combinations

from blindtwins.books import Book
from blindtwins.errors import NoWord, TooMany
from blindtwins.noise import Noise, ask_again, greatest, surely, up_to, words_of

from tests import plain
from tests.values import ErrorCase


class Small:
    """A book, told by its words, and patterns, with the definitions word by word."""

    def __init__(self, size, words, patterns):
        self.size = size
        self.words = words
        self.patterns = patterns
        self.noise = Noise(Book(size, sorted(words)[:60]), list(patterns))

    def coming(self, word):
        """All that can come of a word."""
        return {plain.add(word, turned) for pattern in self.patterns for turned in plain.parts_of(pattern)}

    def left(self, came, silent):
        shown = plain.without(came, silent)
        return [word for word in sorted(self.words)
                if any(plain.without(other, silent) == shown for other in self.coming(word))]


def some_patterns(source, size, number):
    lots = plain.all_lots(size)
    if source.randrange(2):
        lots = [lot for lot in lots if len(lot) <= 2]
    return [source.choice(lots) for _ in range(number)]


def small_noise():
    source = random.Random(41)
    for size in (1, 2, 3, 4):
        for _, words in plain.all_books(size):
            for number in (1, 2, 3):
                yield Small(size, words, some_patterns(source, size, number))
    for size in (5, 6) * 20:
        words = plain.sums(source.sample(plain.all_lots(size), source.randrange(1, 5)))
        yield Small(size, words, some_patterns(source, size, source.randrange(1, 7)))


class TestSurely(unittest.TestCase):

    def test_least_pair(self):
        for small in small_noise():
            pairs = [(i, j) for i in range(len(small.patterns)) for j in range(i, len(small.patterns))]
            found = surely(small.noise)
            for i, j in pairs:
                both = set(small.patterns[i]) | set(small.patterns[j])
                inside = [word for word in small.words if word and set(word) <= both]
                if inside:
                    self.assertEqual((len(found), found[:2]), (3, (i, j)))
                    self.assertIn(found[2], inside)
                    break
            else:
                self.assertIsNone(found)

    def test_none_just_if_all_that_comes_comes_of_one_word(self):
        sure = []
        for small in small_noise():
            every = [came for word in small.words for came in small.coming(word)]
            sure.append(len(every) == len(set(every)))
            self.assertIs(surely(small.noise) is None, sure[-1])
        self.assertGreater(min(sure.count(True), sure.count(False)), 50)

    def test_up_to(self):
        for size in (1, 2, 3, 4, 5):
            for number in range(size + 1):
                patterns = [lot for lot in plain.all_lots(size) if len(lot) == number]
                self.assertEqual(up_to(Book(size, []), number).patterns, patterns)


class TestWordsLeft(ErrorCase):

    def test_words_of(self):
        source = random.Random(42)
        for small in small_noise():
            lots = plain.all_lots(small.size)
            for came in lots:
                for silent in source.sample(lots, min(len(lots), 4)):
                    self.assertEqual(words_of(small.noise, came, silent), small.left(came, silent))

    def test_ask_again(self):
        source = random.Random(43)
        numbers = []
        for small in small_noise():
            lots = plain.all_lots(small.size)
            for came in source.sample(lots, min(len(lots), 5)):
                silent = source.choice(lots)
                numbers.append(self.check_asked(small, came, silent))
        self.assertGreater(min(numbers.count(number) for number in (None, 0, 1, 2, 3)), 20)
        self.assertGreater(numbers.count(4), 0)

    def check_asked(self, small, came, silent):
        words = small.left(came, silent)
        if not words:
            self.fails(NoWord, None, ask_again, small.noise, came, silent)
            return None
        if len(words) > 16:
            self.fails(TooMany, 16, ask_again, small.noise, came, silent)
            return None
        number, lot = ask_again(small.noise, came, silent)
        telling = [some for some in plain.all_lots(small.size)
                   if len({plain.cut(word, some) for word in words}) == len(words)]
        self.assertIn(lot, telling)
        self.assertEqual(number, len(lot))
        self.assertEqual(number, min(len(some) for some in telling))
        return number


class TestGreatest(unittest.TestCase):

    def plainly_sure(self, size, words, number):
        lots = list(combinations(range(size), number))
        small = Small(size, words, lots)
        every = [came for word in words for came in small.coming(word)]
        return len(every) == len(set(every))

    def test_all_books(self):
        source = random.Random(44)
        books = [(size, words) for size in (1, 2, 3, 4) for _, words in plain.all_books(size)]
        books += [(size, plain.sums(source.sample(plain.all_lots(size), source.randrange(1, 3))))
                  for size in (5, 6, 7) * 6]
        books += [(5, plain.sums([(0, 1, 2, 3, 4)])), (7, plain.sums([(0, 1, 2, 3, 4, 5, 6)]))]
        for size, words in books:
            number, word = greatest(Book(size, sorted(words)[:60]))
            self.assertTrue(self.plainly_sure(size, words, number))
            self.assertFalse(number < size and self.plainly_sure(size, words, number + 1))
            if len(words) == 1:
                self.assertEqual((number, word), (size, None))
            else:
                self.assertIn(word, words - {()})
                self.assertEqual(len(word), min(len(other) for other in words if other))


if __name__ == "__main__":
    unittest.main()
