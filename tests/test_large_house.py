"""The greatest books, houses and logs for points 43 to 45: right answers, each call within a few seconds."""

import random
import unittest
from math import comb

from blindtwins.books import Book
from blindtwins.counts import knowing_counts, turned_weights, weights
from blindtwins.errors import Blind
from blindtwins.house import House
from blindtwins.known import knows, knows_fault
from blindtwins.logs import against, against_fault, count_fit, least_against, sure
from blindtwins.lots import bit_at, total

from tests.plain import without
from tests.test_large import WHOLE, large_books, some_lot, within_seconds
from tests.test_large_trades import fourteens


def some_log(source, word, number):
    lots = [some_lot(source, WHOLE, source.randrange(8)) for _ in range(number)]
    return [(lot, bit_at(word, lot)) for lot in lots]


class TestCounts(unittest.TestCase):

    def test_weights(self):
        for source, book in large_books():
            found = within_seconds(weights, book)
            self.assertEqual((len(found), sum(found), found[0]), (25, 2 ** book.dim, 1))
            turned = within_seconds(turned_weights, 24, book.dim, found)
            self.assertEqual(turned, weights(book.turned()))
            self.assertEqual(turned_weights(24, 24 - book.dim, turned), found)
            if book.dim <= 12:
                lengths = [len(word) for word in book.words()]
                self.assertEqual(found, [lengths.count(number) for number in range(25)])

    def test_knowing_counts(self):
        for source, book in fourteens():
            place = source.randrange(14)
            found = within_seconds(knowing_counts, book, place)
            turned = within_seconds(knowing_counts, book.turned(), place)
            self.assertEqual([one + other for one, other in zip(found, turned[::-1])],
                             [comb(13, a) for a in range(14)])


class TestHouse(unittest.TestCase):

    def test_200_deeds(self):
        for source, book in large_books():
            word = total([row for row in book.rows() if source.randrange(2)])
            house = House(book, word)
            places = source.sample(WHOLE, 20)
            deeds = [("look", place) for place in places]
            deeds += [("ask", some_lot(source, places, 6)) for _ in range(60)]
            deeds += [("look", places[0])] * 40
            deeds += [("ask", some_lot(source, places, 3)) for _ in range(200 - len(deeds))]
            told = within_seconds(house.trial, deeds)
            self.assertEqual((len(told), len(house)), (200, 0))
            for (kind, at), bit in zip(deeds, told):
                self.assertEqual(bit, bit_at(word, at if kind == "ask" else (at,)))
            within_seconds(house.__iadd__, deeds)
            self.assertEqual((len(house), house.asked), (200, 140))
            self.assertEqual(within_seconds(lambda: list(house.watch(deeds))), told)
            self.assertEqual(len(house), 400)
            self.check_asked(source, house, word)
            for _ in range(400):
                self.assertTrue(house.undo())
            self.assertEqual((house.undo(), house.seen, house.asked, len(house)), (False, (), 0, 0))

    def test_200_falls_and_heals(self):
        for source, book in large_books():
            house = House(book, book.rows()[0] if book.dim else ())
            known_by_others = [place for place in WHOLE if knows(book, without(WHOLE, (place,)), (place,))[0] == "sum"]
            for place in known_by_others[:3]:
                deeds = [("fall", place), ("heal", place)] * 100
                self.assertEqual(within_seconds(house.trial, deeds), [None] * 200)
                within_seconds(house.__iadd__, deeds)
                self.assertEqual((house.seen, house.fallen), ((), ()))

    def check_asked(self, source, house, word):
        for _ in range(10):
            wish = some_lot(source, WHOLE, 5)
            knowing = knows(house.book, house.seen, wish)[0] == "sum"
            try:
                self.assertEqual(within_seconds(house.ask, wish), bit_at(word, wish))
                self.assertTrue(knowing)
                house.undo()
            except Blind as error:
                self.assertFalse(knowing)
                self.assertIsNone(knows_fault(house.book, house.seen, wish, ("twin", error.what)))


class TestLogs(unittest.TestCase):

    def test_60_items_that_fit(self):
        for source, book in large_books():
            word = total([row for row in book.rows() if source.randrange(2)])
            for number in (0, 5, 20, 60):
                log = some_log(source, word, number)
                many = within_seconds(count_fit, book, log)
                self.assertTrue(many >= 1 and 2 ** book.dim % many == 0)
                self.assertIsNone(within_seconds(against, book, log))
                for wish in [some_lot(source, WHOLE, 3) for _ in range(5)]:
                    bit = within_seconds(sure, book, log, wish)
                    counts = [count_fit(book, log[:59] + [(wish, told)]) for told in (0, 1)]
                    if number < 60:
                        self.assertEqual(bit, None if all(counts) else counts.index(many))
                    self.assertIn(bit, (None, bit_at(word, wish)))

    def test_60_items_that_do_not_fit(self):
        for source, book in large_books():
            log = some_log(source, total(book.rows()), 59)
            lots = source.sample([lot for lot, _ in log], 4)
            log.append((total(lots), 1 - sum(bit_at(total(book.rows()), lot) for lot in lots) % 2))
            self.assertEqual(within_seconds(count_fit, book, log), 0)
            self.assertIsNone(within_seconds(against_fault, book, log, within_seconds(against, book, log)))

    def test_14_items(self):
        for source, book in large_books():
            for _ in range(3):
                log = [(some_lot(source, WHOLE, source.randrange(4)), source.randrange(2)) for _ in range(14)]
                found = within_seconds(least_against, book, log)
                self.assertEqual(found is None, count_fit(book, log) > 0)
                if found is not None:
                    self.assertIsNone(against_fault(book, log, found))
        # All choices of an odd number of ones are against it.
        self.assertEqual(within_seconds(least_against, Book(24, []), [((0,), 0)] * 13 + [((1,), 1)]), (13,))


if __name__ == "__main__":
    unittest.main()
