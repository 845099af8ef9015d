"""Point 43: the examples, edges, wrong inputs, and small cases against the definitions."""

import unittest
from itertools import product
from math import comb

from blindtwins.books import Book
from blindtwins.counts import knowing_counts, turned_weights, weights
from blindtwins.errors import BadCount, BadList, BadPlace, BadSize, TooMany

from tests import plain
from tests.values import BIG, ErrorCase, all_kinds, no_integers, no_lists, plainly_number

WHOLE = tuple(range(24))


def coefficient(size, k, j):
    """That of z ** j in (1 - z) ** k * (1 + z) ** (size - k)."""
    return sum((-1) ** i * comb(k, i) * comb(size - k, j - i) for i in range(min(j, k) + 1))


def expected_turned(size, dim, numbers):
    """The turned list; None if it has a number that is no integer or is below 0."""
    sums = [sum(number * coefficient(size, k, j) for k, number in enumerate(numbers)) for j in range(size + 1)]
    if any(number % 2 ** dim or number < 0 for number in sums):
        return None
    return [number // 2 ** dim for number in sums]


def lists_of(length, total):
    """All lists of so many numbers from 0 on with this sum."""
    if length == 1:
        return [[total]]
    return [[first] + rest for first in range(total + 1) for rest in lists_of(length - 1, total - first)]


class TestExamples(ErrorCase):

    def test_of_the_document(self):
        book = Book(3, [(0, 1), (1, 2)])
        self.assertEqual(weights(book), [1, 0, 3, 0])
        self.assertEqual(turned_weights(3, 2, weights(book)), [1, 0, 0, 1])
        self.assertEqual(knowing_counts(book, 0), [0, 0, 1])

    def test_by_name(self):
        book = Book(3, [(0, 1), (1, 2)])
        self.assertEqual(weights(book=book), [1, 0, 3, 0])
        self.assertEqual(turned_weights(weights=[1, 0, 3, 0], dim=2, size=3), [1, 0, 0, 1])
        self.assertEqual(knowing_counts(place=0, book=book), [0, 0, 1])


class TestWeights(ErrorCase):

    def test_all_small_books(self):
        for size in (1, 2, 3, 4):
            for rows, words in plain.all_books(size):
                lengths = [len(word) for word in words]
                expected = [lengths.count(number) for number in range(size + 1)]
                self.assertEqual(weights(Book(size, rows)), expected)

    def test_dim_0(self):
        for size in (1, 24):
            self.assertEqual(weights(Book(size, [])), [1] + [0] * size)

    def test_24_places(self):
        whole = Book(24, [(place,) for place in WHOLE])
        self.assertEqual(weights(whole), [comb(24, number) for number in range(25)])
        even = Book(24, [(place, place + 1) for place in range(23)])
        self.assertEqual(weights(even), [comb(24, number) * (number % 2 == 0) for number in range(25)])
        for dim in (11, 12, 13):
            some = Book(24, [(place,) for place in range(dim)])
            self.assertEqual(weights(some), [comb(dim, number) for number in range(25)])

    def test_lists_that_are_returned(self):
        book = Book(3, [(0, 1)])
        weights(book).clear()
        self.assertEqual(weights(book), [1, 0, 1, 0])


class TestTurnedWeights(ErrorCase):

    def test_all_small_books(self):
        for size in (1, 2, 3, 4):
            for rows, _ in plain.all_books(size):
                book = Book(size, rows)
                found = turned_weights(size, book.dim, weights(book))
                self.assertEqual(found, weights(book.turned()))
                self.assertTrue(all(type(number) is int for number in found))

    def test_all_lists_of_small_sizes(self):
        refused = []
        for size, dim in [(size, dim) for size in (1, 2, 3) for dim in range(size + 1)] + [(4, 1), (4, 2), (5, 1)]:
            for numbers in lists_of(size + 1, 2 ** dim):
                expected = expected_turned(size, dim, numbers)
                refused.append(expected is None)
                if expected is None:
                    self.fails(BadList, numbers, turned_weights, size, dim, numbers)
                else:
                    self.assertEqual(turned_weights(size, dim, numbers), expected)
        self.assertGreater(min(refused.count(True), refused.count(False)), 30)

    def test_no_integer_and_below_0(self):
        broken, below = [1, 1, 0, 0, 2], [0, 0, 4, 0, 0]
        sums = [sum(number * coefficient(4, k, 1) for k, number in enumerate(broken))]
        self.assertEqual([number % 4 for number in sums], [2])
        self.assertLess(sum(number * coefficient(4, k, 2) for k, number in enumerate(below)), 0)
        self.fails(BadList, broken, turned_weights, 4, 2, broken)
        self.fails(BadList, below, turned_weights, 4, 2, below)

    def test_sizes_and_dims(self):
        self.assertEqual(turned_weights(1, 0, [1, 0]), [1, 1])
        self.assertEqual(turned_weights(1, 1, [1, 1]), [1, 0])
        choices = [comb(24, number) for number in range(25)]
        self.assertEqual(turned_weights(24, 0, [1] + [0] * 24), choices)
        self.assertEqual(turned_weights(24, 24, choices), [1] + [0] * 24)

    def test_wrong_sizes_and_dims(self):
        self.fails_for_all(BadSize, no_integers(1, 24), lambda size: turned_weights(size, None, None))
        self.fails_for_all(BadSize, no_integers(1, 24), lambda size: turned_weights(size, 0, [1, 0]))
        for size in (1, 3, 24):
            self.fails_for_all(BadCount, no_integers(0, size), lambda dim: turned_weights(size, dim, None))

    def test_wrong_lists(self):
        for numbers in no_lists() + [[], [1, 0], [1, 0, 0, 0], [1, 0, 0, 1], (1, 0, 0), [0, 0, 0], [2, 0, 0]]:
            self.fails(BadList, numbers, turned_weights, 2, 0, numbers)
        for value in all_kinds():
            if not (plainly_number(value) and value in (0, 1)):
                for numbers in ([value, 0, 0], [1, value, 0], [1, 0, value]):
                    self.fails(BadList, numbers, turned_weights, 2, 0, numbers)
        for numbers in ([2, -1, 0], [1 + BIG, -BIG, 0], [1, 1, 0]):
            self.fails(BadList, numbers, turned_weights, 2, 0, numbers)
        # The sum of True and 1 is 2.
        for numbers in ([True, 0, 1], [1, 0, True], [1, False, 1]):
            self.fails(BadList, numbers, turned_weights, 2, 1, numbers)
        self.assertEqual(turned_weights(2, 1, [1, 0, 1]), [1, 0, 1])

    def test_lists_that_are_passed(self):
        numbers = [1, 0, 3, 0]
        self.assertIsNot(turned_weights(3, 2, numbers), numbers)
        self.assertEqual(numbers, [1, 0, 3, 0])


class TestKnowingCounts(ErrorCase):

    def test_all_parts(self):
        for size in (1, 2, 3, 4):
            for rows, words in plain.all_books(size):
                book = Book(size, rows)
                for place in range(size):
                    rest = plain.without(tuple(range(size)), (place,))
                    knowing = [part for part in plain.parts_of(rest)
                               if (place,) in plain.known_lots(size, words, part)]
                    expected = [len([part for part in knowing if len(part) == a]) for a in range(size)]
                    found = knowing_counts(book, place)
                    self.assertEqual(found, expected)
                    turned = knowing_counts(book.turned(), place)
                    for a in range(size):
                        self.assertEqual(found[a] + turned[size - 1 - a], comb(size - 1, a))

    def test_one_place(self):
        self.assertEqual(knowing_counts(Book(1, []), 0), [1])
        self.assertEqual(knowing_counts(Book(1, [(0,)]), 0), [0])

    def test_14_places_and_15(self):
        even = Book(14, [(place, place + 1) for place in range(13)])
        self.assertEqual(knowing_counts(even, 3), [0] * 13 + [1])
        self.assertEqual(knowing_counts(even.turned(), 13), [0] + [comb(13, a) for a in range(1, 14)])
        for size in (15, 24):
            self.fails(TooMany, 14, knowing_counts, Book(size, []), 0)

    def test_wrong_places(self):
        for size in (1, 3, 15):
            wrong = no_integers(0, size - 1)
            self.fails_for_all(BadPlace, wrong, lambda place: knowing_counts(Book(size, []), place))


class TestTheDefinition(unittest.TestCase):

    def test_coefficients(self):
        # Multiplied out, for small sizes: each factor gives its 1 or its z.
        for size in (1, 2, 3, 4):
            for k in range(size + 1):
                found = [0] * (size + 1)
                for some in product((0, 1), repeat=size):
                    found[sum(some)] += (-1) ** sum(some[:k])
                self.assertEqual([coefficient(size, k, j) for j in range(size + 1)], found)


if __name__ == "__main__":
    unittest.main()
