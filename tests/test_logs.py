"""Point 45: the examples, edges, wrong inputs, and small cases against the definitions."""

import random
import unittest

from blindtwins.books import Book
from blindtwins.errors import BadLog, BadLot, TooMany
from blindtwins.logs import against, against_fault, count_fit, least_against, sure

from tests import plain
from tests.values import ErrorCase, all_kinds, no_lists, no_lots, plainly_lot, plainly_number

FUNCTIONS = (count_fit, against, least_against)


def even():
    return Book(3, [(0, 1), (1, 2)])


def no_items(size):
    """Values of all kinds that are no items of a log."""
    near = [((0,),), ((0,), 0, 0), [(0,), 0], (0, (0,)), ([0], 1), ((0,), "1"), ((0,), "?")]
    bits = [value for value in all_kinds() if value is not None and not (plainly_number(value) and value in (0, 1))]
    near += [((0,), bit) for bit in bits] + [(lot, bit) for lot in no_lots(size) for bit in (0, None)]
    kinds = [value for value in all_kinds() if not (isinstance(value, tuple) and len(value) == 2)]
    return near + kinds


class TestExamples(ErrorCase):

    def test_of_the_document(self):
        book = Book(3, [(0, 1), (1, 2)])
        self.assertEqual(count_fit(book, [((0,), 1), ((1,), None)]), 2)
        self.assertEqual(sure(book, [((0, 1), 1)], (2,)), 1)
        self.assertEqual(against(book, [((0,), 1), ((1, 2), 0)]), (0, 1))

    def test_by_name(self):
        log = [((0,), 1), ((1, 2), 0)]
        self.assertEqual(count_fit(log=log, book=even()), 0)
        self.assertIsNone(sure(wish=(2,), log=log, book=even()))
        self.assertEqual(against(log=log, book=even()), (0, 1))
        self.assertIsNone(against_fault(indexes=(0, 1), log=log, book=even()))
        self.assertEqual(least_against(log=log, book=even()), (0, 1))


class TestEdges(ErrorCase):

    def test_the_empty_log(self):
        self.assertEqual(count_fit(even(), []), 4)
        self.assertEqual([sure(even(), [], (0,)), sure(even(), [], (0, 1, 2)), sure(even(), [], ())], [None, 0, 0])
        self.assertIsNone(against(even(), []))
        self.assertIsNone(least_against(even(), []))
        self.assertEqual(against_fault(even(), [], ()), ("even",))
        self.assertEqual(against_fault(even(), [], (0,)), ("form",))

    def test_the_empty_lot(self):
        self.assertEqual(count_fit(even(), [((), 0)]), 4)
        self.assertEqual(count_fit(even(), [((), 1)]), 0)
        self.assertEqual(against(even(), [((0,), 1), ((), 1)]), (1,))
        self.assertIsNone(sure(even(), [((), 1)], ()))

    def test_bits_that_are_not_known(self):
        log = [((0,), None), ((), None), ((0, 1, 2), None)]
        self.assertEqual((count_fit(even(), log), against(even(), log), least_against(even(), log)), (4, None, None))
        self.assertEqual(against_fault(even(), log, (2,)), ("unknown", 2))
        log = [((0, 1, 2), None), ((0, 1, 2), 1)]
        self.assertEqual((against(even(), log), least_against(even(), log)), ((1,), (1,)))

    def test_dim_0(self):
        nothing = Book(24, [])
        self.assertEqual(count_fit(nothing, [((5,), 0)]), 1)
        self.assertEqual((sure(nothing, [], (7,)), sure(nothing, [((7,), 1)], (7,))), (0, None))
        self.assertEqual(against(nothing, [((5,), 1)]), (0,))

    def test_60_items_and_61(self):
        log = [((0,), 1)] * 60
        self.assertEqual((count_fit(even(), log), sure(even(), log, (0,)), against(even(), log)), (2, 1, None))
        self.assertEqual(against_fault(even(), log[:59] + [((0,), 0)], (58, 59)), None)
        for value in (log + [((0,), 1)], [None] * 61):
            for function in FUNCTIONS:
                self.fails(BadLog, -1, function, even(), value)
            self.fails(BadLog, -1, sure, even(), value, None)
            self.fails(BadLog, -1, against_fault, even(), value, None)

    def test_14_items_and_15(self):
        log = [((0,), 0)] * 13 + [((0,), 1)]
        self.assertEqual(least_against(even(), log), (0, 13))
        for value in (log + [((0,), 1)], [((0,), None)] * 15, [((0,), 0)] * 60):
            self.fails(TooMany, 14, least_against, even(), value)
        self.fails(BadLog, 14, least_against, even(), log + [None])

    def test_faults(self):
        log = [((0,), 1), ((1, 2), None), ((1,), 0), ((2,), 0), ((0, 1), 1)]
        self.assertEqual(against_fault(even(), log, (0, 5)), ("form",))
        self.assertEqual(against_fault(even(), log, (1, 2)), ("unknown", 1))
        self.assertEqual(against_fault(even(), log, (0, 2)), ("check",))
        self.assertEqual(against_fault(even(), log, (0, 2, 4)), ("even",))
        self.assertIsNone(against_fault(even(), log, (0, 2, 3)))


class TestWrong(ErrorCase):

    def test_no_lists(self):
        for value in no_lists() + [(((0,), 1),)]:
            for function in FUNCTIONS:
                self.fails(BadLog, -1, function, even(), value)
            self.fails(BadLog, -1, sure, even(), value, None)
            self.fails(BadLog, -1, against_fault, even(), value, None)

    def test_no_items(self):
        for item in no_items(3):
            for function in FUNCTIONS:
                self.fails(BadLog, 0, function, even(), [item, None])
                self.fails(BadLog, 1, function, even(), [((0,), 1), item])
            self.fails(BadLog, 1, sure, even(), [((0,), 1), item], None)
            self.fails(BadLog, 1, against_fault, even(), [((0,), 1), item], (0,))

    def test_wishes(self):
        for log in ([], [((), 1)]):
            self.fails_for_all(BadLot, no_lots(3), lambda wish: sure(even(), log, wish))

    def test_forms(self):
        log = [((0,), 1), ((1,), None)]
        for value in all_kinds() + no_lots(2):
            if not plainly_lot(value, 2):
                self.assertEqual(against_fault(even(), log, value), ("form",))

    def test_lists_that_are_passed(self):
        log = [((0,), 1), ((1, 2), 0), ((), None)]
        for function in FUNCTIONS:
            function(even(), log)
        sure(even(), log, (0,))
        against_fault(even(), log, (0, 1))
        self.assertEqual(log, [((0,), 1), ((1, 2), 0), ((), None)])


class Small:
    """A book, told by its words, and a log, with the definitions word by word."""

    def __init__(self, size, words, log):
        self.size = size
        self.words = words
        self.log = log
        self.book = Book(size, sorted(words)[:60])
        self.fitting = [word for word in words
                        if all(bit is None or plain.bit(word, lot) == bit for lot, bit in log)]
        self.checks = plain.checks(size, words)

    def fault(self, indexes):
        for index in indexes:
            if self.log[index][1] is None:
                return "unknown", index
        if plain.add_all([self.log[index][0] for index in indexes]) not in self.checks:
            return ("check",)
        if sum(self.log[index][1] for index in indexes) % 2 == 0:
            return ("even",)
        return None


def small_logs():
    source = random.Random(45)
    books = [(size, words) for size in (1, 2, 3) for _, words in plain.all_books(size)]
    books += source.sample([(4, words) for _, words in plain.all_books(4)], 30)
    books += [(5, plain.sums(source.sample(plain.all_lots(5), 3))) for _ in range(60)]
    for size, words in books:
        for number in (0, 1, 2, 3, 4, 6):
            bits = source.choice([(0, 1), (0, 1, None), (0, 0, 1, None)])
            lots = [source.choice(plain.all_lots(size)) for _ in range(number)]
            yield Small(size, words, [(lot, source.choice(bits)) for lot in lots])
            word = source.choice(sorted(words))
            lots = [source.choice(plain.all_lots(size)) for _ in range(number)]
            yield Small(size, words, [(lot, source.choice((plain.bit(word, lot), None))) for lot in lots])


class TestDefinitions(ErrorCase):

    def test_fitting_words(self):
        for small in small_logs():
            self.assertEqual(count_fit(small.book, small.log), len(small.fitting))
            for wish in plain.all_lots(small.size):
                bits = {plain.bit(word, wish) for word in small.fitting}
                self.assertEqual(sure(small.book, small.log, wish), bits.pop() if len(bits) == 1 else None)

    def test_against(self):
        found = []
        for small in small_logs():
            right = [some for some in plain.all_lots(len(small.log)) if small.fault(some) is None]
            answer = against(small.book, small.log)
            least = least_against(small.book, small.log)
            self.assertEqual(right == [], small.fitting != [])
            if right:
                self.assertIn(answer, right)
                self.assertEqual(least, min(right, key=lambda some: (len(some), some)))
            else:
                self.assertEqual((answer, least), (None, None))
            found.append(len(least or ()))
        self.assertGreater(min(found.count(number) for number in (0, 1, 2, 3)), 5)

    def test_faults(self):
        kinds = []
        for small in small_logs():
            for indexes in plain.all_lots(len(small.log)):
                expected = small.fault(indexes)
                self.assertEqual(against_fault(small.book, small.log, indexes), expected)
                kinds.append(expected and expected[0])
            self.assertEqual(against_fault(small.book, small.log, (len(small.log),)), ("form",))
        self.assertGreater(min(kinds.count(kind) for kind in ("unknown", "check", "even", None)), 100)


if __name__ == "__main__":
    unittest.main()
