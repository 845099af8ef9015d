"""The greatest clutters, stores and deals: right answers, each call within a few seconds."""

import random
import unittest
from itertools import combinations

from blindtwins.books import Book
from blindtwins.clutters import blocker, cheapest_blinding, cheapest_knowing, is_clutter
from blindtwins.clutters import least_blinding, least_knowing
from blindtwins.deals import Deal
from blindtwins.known import hide, knows, left
from blindtwins.lots import total
from blindtwins.stores import Store, bad_falls, heal, heal_fault, heals, lost, places_of, repair
from blindtwins.stores import rounds, weakest

from tests.plain import bit, union, without
from tests.test_large import WHOLE, large_books, some_lot, within_seconds

NAMES = list("abcdefghij")
ALL = tuple(range(12))


def fourteens():
    """Books of 14 places."""
    source = random.Random(14)
    places = tuple(range(14))
    for dim, number in ((1, 7), (4, 3), (7, 7), (9, 3), (9, 7), (11, 7), (13, 3)):
        yield source, Book(14, [some_lot(source, places, number) for _ in range(dim)])
    yield source, Book(14, [(place,) for place in places])
    yield source, Book(14, [(place, place + 1) for place in range(13)])
    # Six pairs of places show the same: whatever takes one place of each pair tells the sum of all.
    yield source, Book(14, [(place, place + 6, 13) for place in range(6)])


def twelves():
    """Stores of 24 places on 12 disks."""
    for source, book in large_books():
        places = source.sample(WHOLE, 24)
        yield source, Store(book, tuple(tuple(sorted(places[2 * k:2 * k + 2])) for k in range(12)))
        cuts = sorted(source.sample(range(1, 24), 11))
        ends = zip([0] + cuts, cuts + [24])
        yield source, Store(book, tuple(tuple(sorted(places[start:end])) for start, end in ends))


def large_deals():
    """Deals of 24 places to 10 hands, with 10 secrets, and none, some or 40 told sums."""
    for source, book in large_books():
        for size, told in ((3, 0), (8, 3), (2, 40)):
            hands = {name: some_lot(source, WHOLE, size) for name in NAMES}
            secrets = {name: some_lot(source, WHOLE, source.randrange(1, 5)) for name in NAMES}
            deal = Deal(book, hands, secrets)
            # Of 40 told sums most are sums of few, so that not everything is told.
            few = [some_lot(source, WHOLE, 6) for _ in range(4)]
            for _ in range(told):
                deal = deal.say(total(source.sample(few, 2)))
            yield source, deal


class TestClutters(unittest.TestCase):

    def test_fourteen_places(self):
        most = 0
        for source, book in fourteens():
            for wish in ((), (13,), (0, 13)):
                knowing = within_seconds(least_knowing, book, wish)
                blinding = within_seconds(least_blinding, book, wish)
                self.check_least(book, wish, knowing)
                if len(knowing) <= 2000 and len(blinding) <= 2000:
                    self.assertEqual(within_seconds(blocker, knowing, 14), blinding)
                    self.assertEqual(within_seconds(blocker, blinding, 14), knowing)
                prices = {place: source.randrange(9) for place in range(14)}
                self.check_cheapest(within_seconds(cheapest_knowing, book, wish, prices), knowing, prices)
                self.check_cheapest(within_seconds(cheapest_blinding, book, wish, prices), blinding, prices)
                most = max(most, len(knowing), len(blinding))
        self.assertGreater(most, 60)

    def check_least(self, book, wish, knowing):
        for part in knowing[:20]:
            self.assertEqual(knows(book, part, wish)[0], "sum")
            for place in part:
                self.assertEqual(knows(book, without(part, (place,)), wish)[0], "twin")

    def check_cheapest(self, found, lots, prices):
        priced = [(sum(prices[place] for place in lot), lot) for lot in lots]
        self.assertEqual(found, min(priced) if priced else None)

    def test_the_greatest_clutters(self):
        self.assertTrue(within_seconds(is_clutter, list(combinations(range(60), 3)), 60))
        self.assertTrue(within_seconds(is_clutter, list(combinations(range(14), 7)), 14))
        lots = list(combinations(range(14), 6))[:2000]
        self.assertEqual(within_seconds(blocker, within_seconds(blocker, lots, 14), 14), lots)


class TestStores(unittest.TestCase):

    def some_falls(self, source):
        return [some_lot(source, ALL, number) for number in (0, 1, 2, 4, 6, 9, 11, 12)]

    def test_lost_and_heal(self):
        for source, store in twelves():
            for fall in self.some_falls(source):
                standing = places_of(store, without(ALL, fall))
                self.assertEqual(within_seconds(lost, store, fall), hide(store.book, standing))
                answer = within_seconds(heal, store, fall)
                self.assertEqual(answer[0] == "sums", lost(store, fall) == 0)
                self.assertIsNone(within_seconds(heal_fault, store, fall, answer))

    def test_repair(self):
        for source, store in twelves():
            for fall in self.some_falls(source)[1:]:
                for place in places_of(store, fall)[:2]:
                    prices = tuple(source.randrange(9) for _ in ALL)
                    found = within_seconds(repair, store, place, fall, prices)
                    standing = places_of(store, without(ALL, fall))
                    self.assertEqual(found is None, knows(store.book, standing, (place,))[0] == "twin")
                    if found is not None:
                        self.check_repair(store, place, fall, prices, found)

    def check_repair(self, store, place, fall, prices, found):
        price, disks, lot = found
        self.assertEqual(price, sum(prices[disk] for disk in disks))
        self.assertFalse(set(disks) & set(fall))
        self.assertTrue(set(lot) <= set(places_of(store, disks)))
        self.assertTrue(store.book.tell_same(lot, (place,)))

    def test_rounds(self):
        for source, store in twelves():
            for fall in self.some_falls(source):
                standing = places_of(store, without(ALL, fall))
                for most in (1, 3, 5, 6, 7, 12):
                    done, never = within_seconds(rounds, store, fall, most)
                    back = union(done)
                    self.assertEqual(union([back, never]), places_of(store, fall))
                    for place in back:
                        self.assertEqual(knows(store.book, standing, (place,))[0], "sum")
                    if most == 12:
                        told = [place for place in places_of(store, fall)
                                if knows(store.book, standing, (place,))[0] == "sum"]
                        self.assertEqual(done, [tuple(told)] if told else [])

    def test_weakest_and_bad_falls(self):
        for source, store in twelves():
            found = within_seconds(weakest, store)
            if store.book.dim == 0:
                self.assertEqual((found, within_seconds(bad_falls, store, 12)), (None, 0))
                continue
            number, fall, word = found
            self.assertEqual(number, len(fall))
            self.assertIsNone(heal_fault(store, fall, ("twin", word)))
            self.assertEqual(within_seconds(bad_falls, store, number - 1), 0)
            self.assertGreater(within_seconds(bad_falls, store, number), 0)
            self.assertEqual(within_seconds(bad_falls, store, 12), 1)

    def test_heals(self):
        for source, store in twelves():
            falls = [some_lot(source, ALL, 4) for _ in range(60)]
            for number in (4, 12):
                sums = [some_lot(source, WHOLE, 9) for _ in range(number)]
                found = within_seconds(heals, store, sums, falls)
                if found is None:
                    self.assertLessEqual(max(lost(store, fall) for fall in falls), number)
                else:
                    index, word = found
                    self.assertIsNone(heal_fault(store, falls[index], ("twin", word)))
                    self.assertFalse(any(bit(word, lot) for lot in sums))
                    self.assertIsNone(heals(store, sums, falls[:index]))


class TestDeals(unittest.TestCase):

    def some_groups(self, source):
        return [source.sample(NAMES, number) for number in (0, 1, 2, 5, 9, 10)]

    def test_knows(self):
        kinds = []
        for source, deal in large_deals():
            for group in self.some_groups(source):
                for secret in NAMES[:4]:
                    answer = within_seconds(deal.knows, group, secret)
                    self.assertIsNone(within_seconds(deal.knows_fault, group, secret, answer))
                    self.assertEqual(deal.left(group, [secret]), int(answer[0] == "twin"))
                    kinds.append(answer[0])
                places = union(deal.hands[name] for name in group)
                wishes = [deal.secrets[name] for name in NAMES]
                most = left(deal.book, wishes, places)
                self.assertLessEqual(within_seconds(deal.left, group, NAMES), most)
                if not deal.told:
                    self.assertEqual(deal.left(group, NAMES), most)
        self.assertGreater(min(kinds.count("sum"), kinds.count("twin")), 50)

    def test_least_groups(self):
        for source, deal in large_deals():
            for secret in NAMES[:3]:
                knowing = within_seconds(deal.least_groups, secret)
                blinding = within_seconds(deal.least_blinding, secret)
                for group in knowing[:10]:
                    self.assertEqual(deal.knows(list(group), secret)[0], "sum")
                    for name in group:
                        self.assertEqual(deal.knows(list(without(group, (name,))), secret)[0], "twin")
                for group in blinding[:10]:
                    others = list(without(NAMES, group))
                    self.assertEqual(deal.knows(others, secret)[0], "twin")
                    for name in group:
                        self.assertEqual(deal.knows(others + [name], secret)[0], "sum")
                self.assertTrue(all(set(one) & set(other) for one in knowing for other in blinding))

    def test_agreed(self):
        numbers = []
        for source, deal in large_deals():
            for hands in self.some_groups(source)[1:]:
                for listeners in self.some_groups(source):
                    lots = within_seconds(deal.agreed_lots, hands, listeners)
                    numbers.append(within_seconds(deal.agreed, hands, listeners))
                    self.assertEqual(len(lots), numbers[-1])
                    self.assertIsNone(within_seconds(deal.agreed_fault, hands, listeners, lots))
        self.assertGreater(max(numbers), 3)

    def test_sixty_lots(self):
        for source, deal in large_deals():
            share = deal.hands["a"]
            lots = [some_lot(source, share, source.randrange(1, len(share) + 1)) for _ in range(60)]
            kind, indexes = within_seconds(deal.agreed_fault, ["a"], NAMES[1:], lots)
            self.assertEqual(kind, "heard")
            # What is told last: the sum of these lots, put into a new deal as a secret, is known.
            secrets = {"s": total([lots[index] for index in indexes])}
            told = Deal(deal.book, deal.hands, secrets)
            for lot in deal.told:
                told = told.say(lot)
            self.assertEqual(told.knows(NAMES[1:], "s")[0], "sum")


if __name__ == "__main__":
    unittest.main()
