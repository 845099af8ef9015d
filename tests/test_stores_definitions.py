"""Points 20 to 23 against the definitions themselves: all small books, disks and falls."""

import random
import unittest
from itertools import combinations

from blindtwins.books import Book
from blindtwins.stores import Store, bad_falls, heal, heal_fault, heals, lost, places_of, repair
from blindtwins.stores import rounds, weakest

from tests import plain


class Small:
    """A store, told by its words, with the definitions word by word."""

    def __init__(self, size, words, disks):
        self.size = size
        self.words = words
        self.disks = disks
        self.falls = plain.all_lots(len(disks))
        self.store = Store(Book(size, sorted(words)[:60]), tuple(disks))
        self.known = {part: plain.known_lots(size, words, part) for part in plain.all_lots(size)}

    def places(self, disks):
        return plain.union(self.disks[disk] for disk in disks)

    def standing(self, fall):
        return self.places(plain.without(tuple(range(len(self.disks))), fall))

    def hidden(self, fall):
        return plain.zero_on(self.words, self.standing(fall))

    def tells(self, lot, place):
        change = plain.add(lot, (place,))
        return all(plain.bit(word, change) == 0 for word in self.words)


def small_stores():
    """Stores of all books of 1 to 3 places on all disks, and of some books of 4 to 6 on some."""
    for size in (1, 2, 3):
        for _, words in plain.all_books(size):
            for disks in plain.partitions(tuple(range(size))):
                yield Small(size, words, disks[::-1])
    source = random.Random(20)
    for _, words in plain.all_books(4):
        for disks in source.sample(plain.partitions((0, 1, 2, 3)), 3):
            yield Small(4, words, source.sample(disks, len(disks)))
    for size in (5, 6) * 10:
        words = plain.sums(source.sample(plain.all_lots(size), source.randrange(1, size)))
        disks = source.choice(plain.partitions(tuple(range(size))))
        yield Small(size, words, source.sample(disks, len(disks)))


class TestLostAndHeal(unittest.TestCase):

    def test_against_the_definitions(self):
        for small in small_stores():
            for fall in small.falls:
                hidden = small.hidden(fall)
                self.assertEqual(places_of(small.store, fall), small.places(fall))
                self.assertEqual(lost(small.store, fall), plain.logarithm(len(hidden)))
                kind, told = answer = heal(small.store, fall)
                self.assertIsNone(heal_fault(small.store, fall, answer))
                if len(hidden) > 1:
                    self.assertEqual(kind, "twin")
                    self.assertIn(told, hidden - {()})
                else:
                    self.assertEqual((kind, sorted(told)), ("sums", list(small.places(fall))))
                    for place, lot in told.items():
                        self.assertTrue(set(lot) <= set(small.standing(fall)))
                        self.assertTrue(small.tells(lot, place))

    def test_faults_of_all_twins(self):
        for small in small_stores():
            for fall in small.falls:
                for word in plain.all_lots(small.size):
                    shown = plain.cut(word, small.standing(fall))
                    expected = ("seen", shown[0]) if shown else None
                    if word not in small.words:
                        expected = ("word",)
                    elif word == ():
                        expected = ("nought",)
                    self.assertEqual(heal_fault(small.store, fall, ("twin", word)), expected)

    def test_faults_of_sums(self):
        source = random.Random(21)
        for small in small_stores():
            lots = plain.all_lots(small.size) + [None]
            for fall in small.falls:
                for _ in range(12):
                    table = {place: source.choice(lots) for place in range(small.size)}
                    expected = self.expected_fault(small, fall, table)
                    self.assertEqual(heal_fault(small.store, fall, ("sums", table)), expected)

    def test_faults_of_single_sums(self):
        for small in small_stores():
            for fall in small.falls:
                kind, right = heal(small.store, fall)
                if kind == "sums":
                    for place in small.places(fall):
                        for lot in plain.all_lots(small.size):
                            table = {**right, place: lot}
                            expected = self.expected_fault(small, fall, table)
                            self.assertEqual(heal_fault(small.store, fall, ("sums", table)), expected)

    def expected_fault(self, small, fall, table):
        for place in small.places(fall):
            if table[place] is None:
                return "lacks", place
            if set(table[place]) & set(small.places(fall)):
                return "part", place
            if not small.tells(table[place], place):
                return "check", place
        return None


class TestRepair(unittest.TestCase):

    def test_against_all_disks(self):
        for small in small_stores():
            number = len(small.disks)
            pricing = [(1,) * number, tuple(range(number)), tuple(7 * k % 4 for k in range(number, 0, -1))]
            for fall in small.falls:
                for place in small.places(fall):
                    for prices in pricing:
                        self.check(small, place, fall, prices)

    def check(self, small, place, fall, prices):
        standing = plain.without(tuple(range(len(small.disks))), fall)
        enough = [disks for disks in plain.parts_of(standing) if (place,) in small.known[small.places(disks)]]
        found = repair(small.store, place, fall, prices)
        if not enough:
            self.assertIsNone(found)
            return
        price, disks, lot = found
        self.assertEqual(price, min(sum(prices[disk] for disk in some) for some in enough))
        self.assertEqual(price, sum(prices[disk] for disk in disks))
        self.assertIn(disks, enough)
        self.assertTrue(set(lot) <= set(small.places(disks)))
        self.assertTrue(small.tells(lot, place))


class TestRounds(unittest.TestCase):

    def test_against_the_definition(self):
        longest = 0
        for small in small_stores():
            for fall in small.falls:
                for most in (1, 2, 3, 12):
                    expected = self.expected(small, fall, most)
                    self.assertEqual(rounds(small.store, fall, most), expected)
                    longest = max(longest, len(expected[0]))
        self.assertGreaterEqual(longest, 2)

    def test_many_rounds(self):
        source = random.Random(22)
        longest = 0
        for _ in range(60):
            words = plain.sums([tuple(sorted(source.sample(range(7), 3))) for _ in range(3)])
            disks = [(0,), (1,), (2, 3), (4, 5), (6,)]
            small = Small(7, words, disks)
            for fall in ((2, 3, 4), (1, 2, 3), (0, 2, 4)):
                for most in (1, 2):
                    expected = self.expected(small, fall, most)
                    self.assertEqual(rounds(small.store, fall, most), expected)
                    longest = max(longest, len(expected[0]))
        self.assertGreaterEqual(longest, 2)

    def expected(self, small, fall, most):
        done, readable = [], small.standing(fall)
        missing = small.places(fall)
        while True:
            back = tuple(place for place in missing if self.told(small, place, readable, most))
            if not back:
                return done, missing
            done.append(back)
            missing, readable = plain.without(missing, back), plain.union([readable, back])

    def told(self, small, place, readable, most):
        """True if some at most `most` disks know the place by their readable places."""
        for number in range(min(most, len(small.disks)) + 1):
            for disks in combinations(small.disks, number):
                if (place,) in small.known[plain.cut(plain.union(disks), readable)]:
                    return True
        return False


class TestFalls(unittest.TestCase):

    def test_weakest_and_bad_falls(self):
        for small in small_stores():
            bad = [fall for fall in small.falls if len(small.hidden(fall)) > 1]
            for number in range(len(small.disks) + 1):
                expected = len([fall for fall in bad if len(fall) == number])
                self.assertEqual(bad_falls(small.store, number), expected)
            found = weakest(small.store)
            if len(small.words) == 1:
                self.assertEqual((found, bad), (None, []))
            else:
                number, fall, word = found
                self.assertEqual(number, min(len(some) for some in bad))
                self.assertEqual(number, len(fall))
                self.assertIn(fall, bad)
                self.assertIn(word, small.hidden(fall) - {()})

    def test_heals(self):
        source = random.Random(23)
        for small in small_stores():
            for number in (0, 1, 2, 3):
                sums = [source.choice(plain.all_lots(small.size)) for _ in range(number)]
                falls = [source.choice(small.falls) for _ in range(5)]
                self.check_heals(small, sums, falls)
                for fall in small.falls:
                    self.check_heals(small, sums, [fall])

    def check_heals(self, small, sums, falls):
        left = [[word for word in small.hidden(fall) if not any(plain.bit(word, lot) for lot in sums)]
                for fall in falls]
        bad = [index for index, words in enumerate(left) if len(words) > 1]
        found = heals(small.store, sums, falls)
        if not bad:
            self.assertIsNone(found)
            # The fact of point 23.
            if falls:
                self.assertGreaterEqual(len(sums), max(lost(small.store, fall) for fall in falls))
        else:
            self.assertEqual(found[0], bad[0])
            self.assertIn(found[1], left[bad[0]])
            self.assertNotEqual(found[1], ())


if __name__ == "__main__":
    unittest.main()
