"""Points 12 to 15: examples, edges, wrong inputs, and that nothing that is passed changes."""

import unittest

from blindtwins.books import Book
from blindtwins.errors import BadLot, BadLots, BadPrices, TooMany
from blindtwins.known import fillings, hide, knows, knows_fault, least_more, left, same_known, see

from tests.values import BIG, ErrorCase, all_kinds, no_lots

EVEN = Book(4, [(0, 1), (1, 2), (2, 3)])
FULL = Book(24, [(place,) for place in range(24)])


class TestExamples(ErrorCase):

    def test_of_the_document(self):
        self.assertEqual([see(EVEN, (0, 1)), hide(EVEN, (0, 1))], [2, 1])
        self.assertEqual(knows(EVEN, (0, 1, 2), (3,)), ("sum", (0, 1, 2)))
        self.assertEqual(knows(EVEN, (0, 1), (2,)), ("twin", (2, 3)))
        self.assertEqual(left(EVEN, [(2,), (3,)], (0, 1)), 1)

    def test_empty_part_and_the_whole(self):
        whole = (0, 1, 2, 3)
        self.assertEqual([see(EVEN, ()), hide(EVEN, ())], [0, 3])
        self.assertEqual([see(EVEN, whole), hide(EVEN, whole)], [3, 0])
        self.assertEqual(knows(EVEN, (), ()), ("sum", ()))
        self.assertEqual(knows(EVEN, (), whole), ("sum", ()))
        self.assertEqual(knows(EVEN, (), (0,))[0], "twin")
        for wish in ((), (0,), (1, 3), whole):
            self.assertEqual(knows(EVEN, whole, wish)[0], "sum")
        self.assertEqual(left(EVEN, [(0,), (1,), (2,), (3,)], ()), 3)
        self.assertEqual(left(EVEN, [(0,), (1,), (2,), (3,)], whole), 0)

    def test_by_name(self):
        self.assertEqual(see(part=(0,), book=EVEN), 1)
        self.assertEqual(hide(part=(0,), book=EVEN), 2)
        self.assertEqual(knows(wish=(3,), part=(0, 1, 2), book=EVEN), ("sum", (0, 1, 2)))
        answer = ("twin", (2, 3))
        self.assertIsNone(knows_fault(answer=answer, wish=(2,), part=(0, 1), book=EVEN))
        self.assertEqual(left(part=(0, 1), wishes=[(2,)], book=EVEN), 1)
        self.assertEqual(fillings(word=(), part=(0, 1), wishes=[(2,)], book=EVEN), [(0,), (1,)])
        self.assertEqual(least_more(prices={2: 1}, wish=(3,), part=(0, 1), book=EVEN), (1, (2,)))
        self.assertIsNone(same_known(other=(1, 2, 3), one=(0, 1, 2), book=EVEN))


class TestKnowsFault(ErrorCase):

    def test_faults_of_a_sum(self):
        part, wish = (0, 1, 2), (3,)
        self.assertIsNone(knows_fault(EVEN, part, wish, ("sum", (0, 1, 2))))
        self.assertEqual(knows_fault(EVEN, part, wish, ("sum", (3,))), ("part", 3))
        self.assertEqual(knows_fault(EVEN, (1,), wish, ("sum", (0, 1, 2))), ("part", 0))
        self.assertEqual(knows_fault(EVEN, part, wish, ("sum", ())), ("check", (0, 3)))
        self.assertEqual(knows_fault(EVEN, part, wish, ("sum", (0,))), ("check", (1, 3)))

    def test_faults_of_a_twin(self):
        part, wish = (0, 1), (2,)
        self.assertIsNone(knows_fault(EVEN, part, wish, ("twin", (2, 3))))
        self.assertEqual(knows_fault(EVEN, part, wish, ("twin", (2,))), ("word", (0, 1, 2, 3)))
        self.assertEqual(knows_fault(EVEN, part, wish, ("twin", (0, 1))), ("seen", 0))
        self.assertEqual(knows_fault(EVEN, part, wish, ("twin", (1, 2))), ("seen", 1))
        self.assertEqual(knows_fault(EVEN, part, wish, ("twin", ())), ("even",))
        self.assertEqual(knows_fault(EVEN, part, (2, 3), ("twin", (2, 3))), ("even",))
        two = Book(3, [])
        self.assertEqual(knows_fault(two, (), (), ("twin", (1, 2))), ("word", (1,)))

    def test_answers_of_no_form(self):
        near = [("sum",), ("twin", (0,), ()), ["sum", ()], ("Sum", ()), ((), "sum"), ("sum", [0])]
        near += [(True, ()), ("sum", (True,)), ("twin", (False, 1)), ("sum", None), (EVEN, ())]
        near += [("part", ()), ({}, ()), ([], ()), ("twin", (4,)), ("twin", "0"), ("sumtwin", ())]
        fitting = [("sum", (0,)), ("twin", ())]
        for answer in near + [value for value in all_kinds() if value not in fitting]:
            with self.subTest(kind=type(answer).__name__):
                self.assertEqual(knows_fault(EVEN, (0,), (1,), answer), ("form",))
        for lot in no_lots(4):
            self.assertEqual(knows_fault(EVEN, (0,), (1,), ("sum", lot)), ("form",))
            self.assertEqual(knows_fault(EVEN, (0,), (1,), ("twin", lot)), ("form",))


class TestFillings(ErrorCase):

    def test_rows_of_bits(self):
        wishes = [(2,), (3,), (2, 3)]
        self.assertEqual(fillings(EVEN, wishes, (0, 1), ()), [(0, 0, 0), (1, 1, 0)])
        self.assertEqual(fillings(EVEN, wishes, (0, 1), (1, 2)), [(0, 1, 1), (1, 0, 1)])
        self.assertEqual(fillings(EVEN, [], (), (1, 2)), [()])
        self.assertEqual(left(EVEN, [], ()), 0)

    def test_sixty_wishes(self):
        wishes = [(2,), (3,)] * 30
        self.assertEqual(left(EVEN, wishes, (0, 1)), 1)
        self.assertEqual(fillings(EVEN, wishes, (0, 1), ()), [(0,) * 60, (1,) * 60])
        self.fails(BadLots, -1, left, EVEN, wishes + [(2,)], (0, 1))
        self.fails(BadLots, -1, fillings, EVEN, wishes + [(2,)], (0, 1), ())

    def test_up_to_4096(self):
        wishes = [(place,) for place in range(12)]
        found = fillings(FULL, wishes, (), (3,))
        self.assertEqual((len(found), found[0], found[-1]), (4096, (0,) * 12, (1,) * 12))
        self.assertEqual(len(fillings(FULL, wishes + [(12,)], (5,), ())), 4096)
        self.fails(TooMany, 4096, fillings, FULL, wishes + [(12,)], (), ())
        self.fails(TooMany, 4096, fillings, FULL, [(place,) for place in range(24)], (), ())

    def test_wrong_words(self):
        self.fails_for_all(BadLot, no_lots(4), lambda word: fillings(EVEN, [(2,)], (0,), word))
        no_words = [(0,), (0, 1, 2), (3,)]
        self.fails_for_all(BadLot, no_words, lambda word: fillings(EVEN, [(2,)], (0,), word))

    def test_a_wrong_word_goes_ahead_of_too_many(self):
        book = Book(14, [(place,) for place in range(13)])
        wishes, wrong = [(place,) for place in range(13)], (13,)
        self.fails(TooMany, 4096, fillings, book, wishes, (), ())
        self.fails(BadLot, wrong, fillings, book, wishes, (), wrong)


class TestLeastMore(ErrorCase):

    def test_offers(self):
        self.assertEqual(least_more(EVEN, (0, 1), (3,), {}), None)
        self.assertEqual(least_more(EVEN, (0, 1), (2, 3), {}), (0, ()))
        self.assertEqual(least_more(EVEN, (0, 1), (3,), {2: 4, 3: 5}), (4, (2,)))
        self.assertEqual(least_more(EVEN, (0, 1), (3,), {2: 5, 3: 4}), (4, (3,)))
        self.assertEqual(least_more(EVEN, (0,), (3,), {1: 2, 2: 2, 3: 5}), (4, (1, 2)))
        self.assertEqual(least_more(EVEN, (0,), (3,), {1: BIG, 2: BIG}), (2 * BIG, (1, 2)))
        self.assertEqual(least_more(EVEN, (0,), (3,), {0: 1, 1: 1}), None)

    def test_prices_of_nought(self):
        price, lot = least_more(EVEN, (0,), (3,), {0: 0, 1: 0, 2: 0, 3: 9})
        self.assertEqual((price, set(lot) >= {1, 2}, 3 in lot), (0, True, False))

    def test_twelve_offered_places(self):
        chain = Book(24, [(place, place + 1) for place in range(23)])
        part = tuple(range(11))
        prices = {place: place for place in range(11, 23)}
        found = least_more(chain, part, (23,), prices)
        self.assertEqual(found, (sum(range(11, 23)), tuple(range(11, 23))))
        prices[23] = 0
        self.fails(BadPrices, prices, least_more, chain, part, (23,), prices)

    def test_wrong_prices(self):
        values = [value for value in all_kinds() if value not in ({}, {0: 0})]
        values += [{0: False}, {False: 0}, {1: True}, {True: 1}, {4: 1}, {-1: 1}, {BIG: 1}]
        values += [{0: -1}, {0: 1, 1: -BIG}, {0: None}, {None: 0}, {"0": 0}, {0: "0"}, {(0,): 1}]
        values += [{0: (0,)}, {place: 1 for place in range(13)}, [(0, 0)], ((0, 0),)]
        self.fails_for_all(BadPrices, values, lambda prices: least_more(EVEN, (0,), (1,), prices))
        great = [{place: 1 for place in range(13)}, {24: 0}]
        self.fails_for_all(BadPrices, great, lambda prices: least_more(FULL, (), (1,), prices))


class TestSameKnown(ErrorCase):

    def test_parts(self):
        self.assertIsNone(same_known(EVEN, (0, 1, 2), (1, 2, 3)))
        self.assertIsNone(same_known(EVEN, (), ()))
        self.assertEqual(same_known(EVEN, (0, 1), (0, 1, 2)), ("first", (2, 3)))
        self.assertEqual(same_known(EVEN, (0, 1, 2), (0, 1)), ("second", (2, 3)))
        self.assertEqual(same_known(EVEN, (0, 1), (2, 3)), ("first", (2, 3)))


class TestWrongLots(ErrorCase):

    def test_each_part_and_wish(self):
        for value in no_lots(4):
            with self.subTest(kind=type(value).__name__):
                self.fails(BadLot, value, see, EVEN, value)
                self.fails(BadLot, value, hide, EVEN, value)
                self.fails(BadLot, value, left, EVEN, [(0,)], value)
                self.fails(BadLot, value, fillings, EVEN, [(0,)], value, ())
                for function in (knows, same_known):
                    self.fails(BadLot, value, function, EVEN, value, (0,))
                    self.fails(BadLot, value, function, EVEN, (0,), value)
                self.fails(BadLot, value, knows_fault, EVEN, value, (0,), ("sum", ()))
                self.fails(BadLot, value, knows_fault, EVEN, (0,), value, ("sum", ()))
                self.fails(BadLot, value, least_more, EVEN, value, (0,), {})
                self.fails(BadLot, value, least_more, EVEN, (0,), value, {})

    def test_wishes(self):
        for wishes in all_kinds():
            if type(wishes) is not list or len(wishes) > 60:
                with self.subTest(kind=type(wishes).__name__):
                    self.fails(BadLots, -1, left, EVEN, wishes, (0,))
                    self.fails(BadLots, -1, fillings, EVEN, wishes, (0,), ())
        for wish in no_lots(4):
            with self.subTest(kind=type(wish).__name__):
                self.fails(BadLots, 0, left, EVEN, [wish, wish], (0,))
                self.fails(BadLots, 2, fillings, EVEN, [(0,), (), wish], (0,), ())
                self.fails(BadLots, -1, left, EVEN, [wish] * 61, (0,))
                self.fails(BadLots, -1, fillings, EVEN, [wish] * 61, (0,), ())

    def test_the_leftmost_goes_first(self):
        part, wish, word = (4,), [1], None
        for function in (knows, same_known):
            self.fails(BadLot, part, function, EVEN, part, wish)
        self.fails(BadLot, part, knows_fault, EVEN, part, wish, None)
        self.fails(BadLot, wish, knows_fault, EVEN, (0,), wish, None)
        self.fails(BadLot, part, least_more, EVEN, part, wish, None)
        self.fails(BadLot, wish, least_more, EVEN, (0,), wish, None)
        self.fails(BadLots, 0, left, EVEN, [None], part)
        self.fails(BadLots, 0, fillings, EVEN, [None], part, word)
        self.fails(BadLots, -1, fillings, EVEN, None, part, word)
        self.fails(BadLot, part, fillings, EVEN, [(0,)], part, word)
        self.fails(BadLot, word, fillings, EVEN, [(0,)], (0,), word)


class TestNothingChanges(unittest.TestCase):

    def test_arguments(self):
        wishes, prices = [(3,), (2,)], {3: 4, 2: 1}
        left(EVEN, wishes, (0, 1))
        fillings(EVEN, wishes, (0, 1), ())
        least_more(EVEN, (0, 1), (2,), prices)
        self.assertEqual(wishes, [(3,), (2,)])
        self.assertEqual(list(prices.items()), [(3, 4), (2, 1)])
        self.assertEqual((EVEN.dim, EVEN.rows()), (3, [(0, 3), (1, 3), (2, 3)]))

    def test_fillings_are_a_new_list(self):
        first = fillings(EVEN, [(2,)], (0, 1), ())
        first.clear()
        self.assertEqual(fillings(EVEN, [(2,)], (0, 1), ()), [(0,), (1,)])


if __name__ == "__main__":
    unittest.main()
