"""Points 16 to 18 against the definitions themselves: all parts, lots, clutters of small sizes."""

import random
import unittest
from itertools import combinations, product

from blindtwins.books import Book
from blindtwins.clutters import blocker, cheapest_blinding, cheapest_knowing, is_clutter
from blindtwins.clutters import least_blinding, least_knowing

from tests import plain


def some_books():
    """(size, words, book) for all books of 1 to 4 places, and some of 5 and 6."""
    for size in range(1, 5):
        for rows, words in plain.all_books(size):
            yield size, words, Book(size, rows)
    source = random.Random(16)
    for size in (5, 6) * 6:
        rows = source.sample(plain.all_lots(size), source.randrange(1, size))
        yield size, plain.sums(rows), Book(size, rows)


def knowing_parts(size, words, wish):
    """All parts without a place of the wish that know it: no twin of them is there."""
    outside = plain.without(tuple(range(size)), wish)
    found = []
    for part in plain.parts_of(outside):
        if all(plain.bit(word, wish) == 0 for word in plain.zero_on(words, part)):
            found.append(part)
    return found


def blinding_lots(size, words, wish):
    outside = plain.without(tuple(range(size)), wish)
    knowing = knowing_parts(size, words, wish)
    return [lot for lot in plain.parts_of(outside) if plain.without(outside, lot) not in knowing]


def all_clutters(size):
    """All clutters of lots of the size, told by taking or leaving one lot after the other."""
    found = [[]]
    for lot in plain.all_lots(size):
        more = [lots + [lot] for lots in found
                if not any(set(other) <= set(lot) or set(lot) <= set(other) for other in lots)]
        found = found + more
    return found


def meets_all(lot, lots):
    return all(set(lot) & set(other) for other in lots)


class TestLeast(unittest.TestCase):

    def test_against_all_parts(self):
        for size, words, book in some_books():
            for wish in plain.all_lots(size):
                knowing = knowing_parts(size, words, wish)
                blinding = blinding_lots(size, words, wish)
                self.assertEqual(least_knowing(book, wish), plain.least(knowing))
                self.assertEqual(least_blinding(book, wish), plain.least(blinding))

    def test_knowing_by_sums(self):
        for size, words, book in some_books():
            for wish in plain.all_lots(size)[:12]:
                for part in least_knowing(book, wish):
                    self.assertIn(wish, plain.known_lots(size, words, part))
                    for place in part:
                        fewer = plain.without(part, (place,))
                        self.assertNotIn(wish, plain.known_lots(size, words, fewer))

    def test_facts(self):
        for size, words, book in some_books():
            for wish in plain.all_lots(size):
                outside = plain.without(tuple(range(size)), wish)
                knowing, blinding = knowing_parts(size, words, wish), blinding_lots(size, words, wish)
                for lot in plain.parts_of(outside):
                    self.assertEqual(lot in blinding, meets_all(lot, knowing))
                    self.assertEqual(lot in knowing, meets_all(lot, blinding))
                self.assertEqual(blocker(least_knowing(book, wish), size), least_blinding(book, wish))
                self.assertEqual(blocker(least_blinding(book, wish), size), least_knowing(book, wish))


class TestClutters(unittest.TestCase):

    def test_there_are_as_many_clutters_as_there_must_be(self):
        self.assertEqual([len(all_clutters(size)) for size in range(5)], [2, 3, 6, 20, 168])

    def test_is_clutter_of_all_short_lists(self):
        for size in (1, 2, 3):
            clutters = all_clutters(size)
            for number in range(4):
                for lots in product(plain.all_lots(size), repeat=number):
                    self.assertIs(is_clutter(list(lots), size), list(lots) in clutters)

    def test_is_clutter_of_all_ascending_lists(self):
        for size in (2, 3):
            clutters = all_clutters(size)
            for number in range(2 ** size + 1):
                for lots in combinations(plain.all_lots(size), number):
                    self.assertIs(is_clutter(list(lots), size), list(lots) in clutters)
        for clutter in all_clutters(4):
            self.assertIs(is_clutter(clutter, 4), True)
            self.assertIs(is_clutter(clutter, 60), True)

    def test_blockers_of_all_clutters(self):
        for size in range(5):
            for clutter in all_clutters(size):
                meeting = [lot for lot in plain.all_lots(size) if meets_all(lot, clutter)]
                found = blocker(clutter, size)
                self.assertEqual(found, plain.least(meeting))
                self.assertEqual(blocker(found, size), clutter)
                # Places that stand in no lot of the clutter stand in none of the blocker.
                self.assertEqual(blocker(clutter, size + 3), found)


class TestCheapest(unittest.TestCase):

    def some_prices(self, size):
        yield {place: 0 for place in range(size)}
        yield {place: 1 for place in range(size)}
        yield {place: place for place in range(size)}
        yield {place: size - place for place in range(size)}
        yield {place: (5 * place + 3) % 4 for place in range(size)}

    def test_against_all_parts(self):
        for size, words, book in some_books():
            for wish in plain.all_lots(size):
                for prices in self.some_prices(size):
                    knowing = knowing_parts(size, words, wish)
                    blinding = blinding_lots(size, words, wish)
                    self.check(cheapest_knowing(book, wish, prices), knowing, prices)
                    self.check(cheapest_blinding(book, wish, prices), blinding, prices)

    def check(self, found, lots, prices):
        priced = [(sum(prices[place] for place in lot), lot) for lot in lots]
        if not priced:
            self.assertIsNone(found)
            return
        price = min(priced)[0]
        least = [lot for lot in plain.least(lots) if (price, lot) in priced]
        self.assertEqual(found, (price, least[0]))


if __name__ == "__main__":
    unittest.main()
