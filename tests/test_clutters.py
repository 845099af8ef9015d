"""Points 16 to 18: examples, edges, wrong inputs, and that nothing that is passed changes."""

import unittest
from itertools import combinations

from blindtwins.books import Book
from blindtwins.clutters import blocker, cheapest_blinding, cheapest_knowing, is_clutter
from blindtwins.clutters import least_blinding, least_knowing
from blindtwins.errors import BadClutter, BadLot, BadPrices, BadSize, TooMany

from tests.values import BIG, ErrorCase, all_kinds, no_integers, no_lots, plainly_lot

BOOK = Book(4, [(0, 1, 3), (1, 2)])
WHOLE = tuple(range(14))
# 0 and 1 show the same, so do 2 and 3, .. 10 and 11; 13 is the sum of six of them; 12 is free.
PAIRS = Book(14, [(2 * k, 2 * k + 1, 13) for k in range(6)] + [(12,)])
# All lots of 5 of 14 places, but for the first two: 2000 of them.
FIVES = list(combinations(range(14), 5))[2:]


def tens():
    """The blocker of FIVES: what meets all lots of 5 but two, or all of them."""
    nines = [tuple(sorted(set(WHOLE) - set(five))) for five in list(combinations(range(14), 5))[:2]]
    lots = [ten for ten in combinations(range(14), 10) if not any(set(nine) < set(ten) for nine in nines)]
    return sorted(nines + lots)


class TestExamples(ErrorCase):

    def test_of_the_document(self):
        self.assertEqual(least_knowing(BOOK, (3,)), [(0,), (1, 2)])
        self.assertEqual(least_blinding(BOOK, (3,)), [(0, 1), (0, 2)])
        self.assertEqual(blocker([(0,), (1, 2)], 4), [(0, 1), (0, 2)])

    def test_by_name(self):
        self.assertEqual(least_knowing(wish=(3,), book=BOOK), [(0,), (1, 2)])
        self.assertEqual(least_blinding(wish=(3,), book=BOOK), [(0, 1), (0, 2)])
        self.assertIs(is_clutter(size=4, value=[(0,), (1, 2)]), True)
        self.assertEqual(blocker(size=4, clutter=[(0,), (1, 2)]), [(0, 1), (0, 2)])
        prices = {0: 5, 1: 1, 2: 2}
        self.assertEqual(cheapest_knowing(prices=prices, wish=(3,), book=BOOK), (3, (1, 2)))
        self.assertEqual(cheapest_blinding(prices=prices, wish=(3,), book=BOOK), (6, (0, 1)))


class TestLeast(ErrorCase):

    def test_the_empty_part_knows(self):
        for wish in ((), (0, 3)):
            book = Book(4, [(0, 3), (1,)])
            self.assertEqual(least_knowing(book, wish), [()])
            self.assertEqual(least_blinding(book, wish), [])
        self.assertEqual(least_knowing(Book(14, []), WHOLE), [()])
        self.assertEqual(least_blinding(Book(14, []), WHOLE), [])

    def test_nobody_outside_of_the_wish_knows(self):
        for wish in ((0,), (1, 3), (0, 1, 2, 3)):
            book = Book(4, [(place,) for place in range(4)])
            self.assertEqual(least_knowing(book, wish), [])
            self.assertEqual(least_blinding(book, wish), [()])

    def test_parts_have_no_place_of_the_wish(self):
        # Place 0 alone tells 0, but it is a place of the wish.
        self.assertEqual(least_knowing(Book(2, [(0, 1)]), (0,)), [(1,)])
        self.assertEqual(least_knowing(Book(3, [(0,), (1, 2)]), (0, 1)), [])
        self.assertEqual(least_knowing(Book(3, [(0,), (1, 2)]), (1,)), [(2,)])

    def test_fourteen_places(self):
        knowing = least_knowing(PAIRS, (13,))
        self.assertEqual((len(knowing), knowing[0]), (64, (0, 2, 4, 6, 8, 10)))
        self.assertEqual(least_blinding(PAIRS, (13,)), [(2 * k, 2 * k + 1) for k in range(6)])
        chain = Book(14, [(place, place + 1) for place in range(13)])
        self.assertEqual(least_knowing(chain, (13,)), [WHOLE[:13]])
        self.assertEqual(least_blinding(chain, (13,)), [(place,) for place in range(13)])

    def test_fifteen_places(self):
        for size in (15, 24):
            book = Book(size, [(0, 1)])
            for wish in ((), (0,), tuple(range(size))):
                self.fails(TooMany, 14, least_knowing, book, wish)
                self.fails(TooMany, 14, least_blinding, book, wish)

    def test_wrong_wishes(self):
        for function in (least_knowing, least_blinding):
            self.fails_for_all(BadLot, no_lots(4), lambda wish: function(BOOK, wish))
            # BadLot goes ahead of TooMany.
            self.fails_for_all(BadLot, no_lots(15), lambda wish: function(Book(15, []), wish))


class TestIsClutter(ErrorCase):

    def test_clutters(self):
        self.assertIs(is_clutter([], 0), True)
        self.assertIs(is_clutter([()], 0), True)
        self.assertIs(is_clutter([(59,)], 60), True)
        self.assertIs(is_clutter([(0, 3), (1,), (2,)], 4), True)
        self.assertIs(is_clutter(FIVES, 14), True)
        self.assertIs(is_clutter(list(combinations(range(60), 2)), 60), True)

    def test_others(self):
        wrong = [[(), (0,)], [(0,), (0,)], [(1,), (0,)], [(0,), (0, 1)], [(0, 1), (1,)], [(0, 1, 2), (1,)]]
        wrong += [[(4,)], [(0,), (4,)], [[0]], [(0,), None], ((0,),), {(0,): 1}, [(True,)], [(1, 0)]]
        for value in wrong:
            self.assertIs(is_clutter(value, 4), False)
        self.assertIs(is_clutter([(60,)], 60), False)
        self.assertIs(is_clutter([(0,)], 0), False)
        self.assertIs(is_clutter(FIVES[::-1], 14), False)
        self.assertIs(is_clutter(FIVES + [WHOLE], 14), False)

    def test_all_kinds(self):
        for value in all_kinds():
            with self.subTest(kind=type(value).__name__):
                self.assertIs(is_clutter(value, 4), value == [] or value == [(0,)])

    def test_one_lot_in_another_wherever_they_stand(self):
        lots = list(combinations(range(12), 4))
        for more in ((0, 1, 2), (3, 5, 11), (8, 9, 10, 11), (1, 2, 3, 4, 7)):
            self.assertIs(is_clutter(sorted(lots + [more]), 12), False)

    def test_wrong_sizes(self):
        for value in ([], [(0,)], None, [None]):
            self.fails_for_all(BadSize, no_integers(0, 60), lambda size: is_clutter(value, size))


class TestBlocker(ErrorCase):

    def test_least_sizes(self):
        self.assertEqual(blocker([], 0), [()])
        self.assertEqual(blocker([()], 0), [])
        self.assertEqual(blocker([], 14), [()])
        self.assertEqual(blocker([()], 14), [])
        self.assertEqual(blocker([(0,)], 1), [(0,)])
        self.assertEqual(blocker([WHOLE], 14), [(place,) for place in WHOLE])
        self.assertEqual(blocker([(place,) for place in WHOLE], 14), [WHOLE])

    def test_2000_lots(self):
        self.assertEqual(len(FIVES), 2000)
        self.assertEqual(blocker(FIVES, 14), tens())
        more = sorted(FIVES + [(0, 1, 2, 3, 4)])
        self.assertIs(is_clutter(more, 14), True)
        self.fails(BadClutter, more, blocker, more, 14)

    def test_a_blocker_of_2000_and_more(self):
        self.assertEqual(blocker(tens(), 14), FIVES)
        # Without the 9 places that shut (0, 1, 2, 3, 4) out it is in the blocker, too.
        fives = sorted(FIVES + [(0, 1, 2, 3, 4)])
        nine = tuple(sorted(set(WHOLE) - set((0, 1, 2, 3, 5))))
        lots = [lot for lot in combinations(range(14), 10) if not set(nine) < set(lot)]
        clutter = sorted([nine] + lots)
        self.assertEqual(len(fives), 2001)
        self.fails(TooMany, 2000, blocker, clutter, 14)
        self.fails(TooMany, 2000, blocker, list(combinations(range(14), 10)), 14)

    def test_wrong_sizes_go_first(self):
        for clutter in ([], [(0,)], None, [None]):
            self.fails_for_all(BadSize, no_integers(0, 14), lambda size: blocker(clutter, size))

    def test_wrong_clutters(self):
        for size in (0, 1, 4, 14):
            for value in all_kinds():
                if value != [] and not (value == [(0,)] and size > 0):
                    with self.subTest(size=size, kind=type(value).__name__):
                        self.fails(BadClutter, value, blocker, value, size)
        near = [[(), (0,)], [(0,), (0,)], [(1,), (0,)], [(0,), (0, 1)], [(4,)], [(0,), (True,)], [(1, 0)]]
        self.fails_for_all(BadClutter, near, lambda clutter: blocker(clutter, 4))


class TestCheapest(ErrorCase):

    def test_the_first_of_the_cheapest(self):
        self.assertEqual(cheapest_knowing(BOOK, (3,), {0: 2, 1: 1, 2: 1}), (2, (0,)))
        self.assertEqual(cheapest_knowing(BOOK, (3,), {0: 3, 1: 1, 2: 1}), (2, (1, 2)))
        self.assertEqual(cheapest_blinding(BOOK, (3,), {0: 2, 1: 1, 2: 1}), (3, (0, 1)))
        self.assertEqual(cheapest_blinding(BOOK, (3,), {0: 2, 1: 2, 2: 1}), (3, (0, 2)))
        nought = {place: 0 for place in range(13)}
        self.assertEqual(cheapest_knowing(PAIRS, (13,), nought), (0, (0, 2, 4, 6, 8, 10)))
        self.assertEqual(cheapest_blinding(PAIRS, (13,), nought), (0, (0, 1)))

    def test_none_and_the_empty_lot(self):
        full = Book(3, [(0,), (1,), (2,)])
        self.assertIsNone(cheapest_knowing(full, (0,), {1: 1, 2: 1}))
        self.assertEqual(cheapest_blinding(full, (0,), {1: 1, 2: 1}), (0, ()))
        self.assertEqual(cheapest_knowing(full, (), {0: 1, 1: 1, 2: 1}), (0, ()))
        self.assertIsNone(cheapest_blinding(full, (), {0: 1, 1: 1, 2: 1}))
        self.assertIsNone(cheapest_knowing(full, (0, 1, 2), {}))
        self.assertEqual(cheapest_blinding(full, (0, 1, 2), {}), (0, ()))

    def test_great_prices(self):
        self.assertEqual(cheapest_knowing(BOOK, (3,), {0: 2 * BIG, 1: BIG, 2: BIG - 1}), (2 * BIG - 1, (1, 2)))
        self.assertEqual(cheapest_blinding(BOOK, (3,), {0: BIG, 1: 1, 2: 0}), (BIG, (0, 2)))

    def test_keys_are_looked_up_as_python_does(self):
        prices = {False: 3, True: 1, 2: 1}
        self.assertEqual(cheapest_knowing(BOOK, (3,), prices), (2, (1, 2)))
        self.assertEqual(cheapest_blinding(BOOK, (3,), prices), (4, (0, 1)))

    def test_further_keys_mean_nothing(self):
        further = {3: "x", 4: -1, -1: None, "0": 0, None: True, (0,): [0], "a": {}, BIG: False, (True, ((),)): 1}
        prices = {0: 2, 1: 1, 2: 1, **further}
        self.assertEqual(cheapest_knowing(BOOK, (3,), prices), (2, (0,)))
        self.assertEqual(cheapest_blinding(BOOK, (3,), prices), (3, (0, 1)))
        self.assertEqual(cheapest_knowing(Book(1, [(0,)]), (0,), further), None)
        # Places of the wish need no price, and True stands for the place 1.
        self.assertEqual(cheapest_knowing(Book(3, [(0, 1), (2,)]), (1,), {0: 1, 2: 9, True: None}), (1, (0,)))

    def test_wrong_prices(self):
        values = [value for value in all_kinds() if not isinstance(value, dict)]
        values += [{}, {0: 1, 1: 1}, {0: 1, 2: 1, 3: 1}, {0: 1, "1": 1, 2: 1}, {0: 1, 1: None, 2: 1}]
        for wrong in (True, False, -1, -BIG, "1", None, (), (1,), [1], {}, {1: 1}, BOOK):
            values += [{0: wrong, 1: 1, 2: 1}, {0: 1, 1: 1, 2: wrong}, {False: 1, True: wrong, 2: 1}]
        for function in (cheapest_knowing, cheapest_blinding):
            self.fails_for_all(BadPrices, values, lambda prices: function(BOOK, (3,), prices))

    def test_the_order_of_errors(self):
        wrong, prices = (15,), {}
        for function in (cheapest_knowing, cheapest_blinding):
            self.fails_for_all(BadLot, no_lots(4), lambda wish: function(BOOK, wish, None))
            self.fails(BadLot, wrong, function, Book(15, []), wrong, prices)
            self.fails(BadPrices, prices, function, Book(15, []), (14,), prices)
            self.fails(TooMany, 14, function, Book(15, []), (14,), {place: 1 for place in range(14)})
            self.fails(TooMany, 14, function, Book(15, []), tuple(range(15)), {})
            self.assertEqual(len(function(PAIRS, (13,), {place: 1 for place in range(13)})), 2)


class TestNothingChanges(unittest.TestCase):

    def test_arguments(self):
        clutter, prices = [(0,), (1, 2)], {2: 1, 1: 1, 0: 1, "x": [1]}
        blocker(clutter, 4)
        is_clutter(clutter, 4)
        cheapest_knowing(BOOK, (3,), prices)
        cheapest_blinding(BOOK, (3,), prices)
        self.assertEqual(clutter, [(0,), (1, 2)])
        self.assertEqual(list(prices.items()), [(2, 1), (1, 1), (0, 1), ("x", [1])])

    def test_new_lists(self):
        for call in (lambda: least_knowing(BOOK, (3,)), lambda: least_blinding(BOOK, (3,)),
                     lambda: blocker([(0,), (1, 2)], 4)):
            first = call()
            first.append((9,))
            self.assertEqual(len(call()), 2)

    def test_kinds(self):
        for lots in (least_knowing(PAIRS, (13,)), least_blinding(PAIRS, (13,)), blocker([(0, 1)], 2)):
            self.assertIs(type(lots), list)
            self.assertTrue(all(plainly_lot(lot, 14) for lot in lots))


if __name__ == "__main__":
    unittest.main()
