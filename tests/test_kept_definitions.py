"""Points 35 to 37 against the definitions themselves: all parts, all deeds, all books of looks."""

import random
import unittest
from functools import lru_cache
from itertools import product

from blindtwins.books import Book
from blindtwins.errors import BadDeed, BadLooks, Lost
from blindtwins.kept import Kept, between, from_books, gain, mends, moved_off, weakest_wires

from tests import plain
from tests.pauli import all_pairs, first_unfit, flat, go_together, pair_of
from tests.values import ErrorCase


def fit(one, other):
    return go_together((0,) + one, (0,) + other)


def lies(deed, part):
    return set(deed[0]) <= set(part) and set(deed[1]) <= set(part)


class Small:
    """Kept wires, told by looks, with the definitions word by word."""

    def __init__(self, wires, looks):
        self.wires = wires
        self.looks = looks
        self.kept = Kept(wires, list(looks))
        self.book = frozenset(pair_of(word, wires) for word in plain.sums([flat(look, wires) for look in looks]))
        self.fitting = [deed for deed in all_pairs(wires) if all(fit(deed, look) for look in looks)]
        self.unseen = [deed for deed in self.fitting if deed not in self.book]
        self.parts = plain.all_lots(wires)

    def rest(self, part):
        return plain.without(tuple(range(self.wires)), part)

    def product(self, one, other):
        return plain.add(one[0], other[0]), plain.add(one[1], other[1])

    def gain(self, part):
        """How long a list grows if each deed is taken that makes no product a look."""
        products = [((), ())]
        number = 0
        for deed in self.unseen:
            more = [self.product(deed, other) for other in products]
            if lies(deed, part) and not any(one in self.book for one in more):
                products += more
                number += 1
        return number


@lru_cache(None)
def all_small(wires):
    """Kept wires for each book of looks of so many wires."""
    found = {}
    for number in range(wires + 1):
        for looks in product(all_pairs(wires)[1:], repeat=number):
            if first_unfit(list(looks), wires) is None:
                book = plain.sums([flat(look, wires) for look in looks])
                found.setdefault(book, looks)
    return [Small(wires, list(looks)) for looks in found.values()]


@lru_cache(None)
def some_small():
    """Some kept wires of 3 and 4 wires."""
    source = random.Random(36)
    found = []
    for wires, number in [(3, k % 4) for k in range(40)] + [(4, k % 5) for k in range(20)]:
        looks = []
        while len(looks) < number:
            look = source.choice(all_pairs(wires))
            if first_unfit(looks + [look], wires) is None:
                looks.append(look)
        found.append(Small(wires, looks))
    return found


def every_small():
    return all_small(1) + all_small(2) + some_small()


class TestKept(ErrorCase):

    def test_all_lists_of_looks(self):
        for wires in (1, 2):
            for number in range(wires + 1):
                for looks in product(all_pairs(wires), repeat=number):
                    index = first_unfit(list(looks), wires)
                    if index is None:
                        self.assertEqual(Kept(wires, list(looks)).kept, wires - number)
                    else:
                        self.fails(BadLooks, index, Kept, wires, list(looks))

    def test_equal_just_if_the_books_are(self):
        source = random.Random(35)
        every = []
        for small in all_small(1) + all_small(2) + some_small()[:20]:
            every.append((small.kept, small.book, small.wires))
            looks = []
            while len(looks) < len(small.looks):
                look = source.choice(sorted(small.book))
                if first_unfit(looks + [look], small.wires) is None:
                    looks.append(look)
            every.append((Kept(small.wires, looks), small.book, small.wires))
        for one, first, wires in every:
            for other, second, others in every:
                self.assertIs(one == other, (first, wires) == (second, others))


class TestParts(ErrorCase):

    def test_gain(self):
        for small in every_small():
            for part in small.parts:
                self.assertEqual(gain(small.kept, part), small.gain(part))
                both = gain(small.kept, part) + gain(small.kept, small.rest(part))
                self.assertEqual(both, 2 * small.kept.kept)

    def test_mends(self):
        for small in every_small():
            for fall in small.parts:
                wrong = [deed for deed in small.unseen if lies(deed, fall)]
                found = mends(small.kept, fall)
                self.assertEqual(found is None, wrong == [])
                self.assertEqual(found is None, gain(small.kept, fall) == 0)
                if found is not None:
                    self.assertIn(found, wrong)

    def test_weakest_wires(self):
        for small in every_small():
            falls = [fall for fall in small.parts if any(lies(deed, fall) for deed in small.unseen)]
            expected = min(len(fall) for fall in falls) if falls else None
            self.assertEqual(weakest_wires(small.kept), expected)
            self.assertEqual(expected is None, small.kept.kept == 0)

    def test_moved_off(self):
        for small in all_small(1) + all_small(2) + some_small()[:40:3] + some_small()[40::4]:
            for fall in small.parts:
                wrong = [deed for deed in small.unseen if lies(deed, fall)]
                for deed in all_pairs(small.wires):
                    self.check_moved(small, fall, wrong, deed)

    def check_moved(self, small, fall, wrong, deed):
        if deed not in small.fitting:
            self.fails(BadDeed, deed, moved_off, small.kept, fall, deed)
        elif wrong:
            with self.assertRaises(Lost) as caught:
                moved_off(small.kept, fall, deed)
            self.assertIn(caught.exception.what, wrong)
        else:
            found = moved_off(small.kept, fall, deed)
            self.assertTrue(lies(found, small.rest(fall)))
            self.assertIn(small.product(found, deed), small.book)

    def test_between(self):
        number = 0
        for small in every_small():
            for part in small.parts:
                if small.kept.kept == 0:
                    inside = len([look for look in small.book if lies(look, part)])
                    self.assertEqual(between(small.kept, part), len(part) - plain.logarithm(inside))
                    self.assertEqual(between(small.kept, part), between(small.kept, small.rest(part)))
                    number += 1
                else:
                    self.fails(Lost, None, between, small.kept, part)
        self.assertGreater(number, 100)


class TestFromBooks(ErrorCase):

    def test_all_small_books(self):
        for size in (1, 2, 3):
            for first, words in plain.all_books(size):
                for second, others in plain.all_books(size):
                    self.check(size, first, words, second, others)

    def check(self, size, first, words, second, others):
        flips, turns = Book(size, first), Book(size, second)
        if any(plain.bit(word, other) for word in words for other in others):
            self.fails(BadLooks, None, from_books, flips, turns)
            return
        looks = [(word, ()) for word in sorted(words)] + [((), word) for word in sorted(others)]
        told = []
        for look in looks:
            if first_unfit(told + [look], size) is None:
                told.append(look)
        found = from_books(flips, turns)
        self.assertEqual(found, Kept(size, told))
        self.assertEqual((found.wires, found.kept), (size, size - flips.dim - turns.dim))


if __name__ == "__main__":
    unittest.main()
