"""Points 19 to 23: examples, edges, wrong inputs, and that nothing that is passed changes."""

import unittest
from itertools import combinations

from blindtwins.books import Book
from blindtwins.errors import BadCount, BadDisks, BadFalls, BadLot, BadLots, BadPlace, BadPrices
from blindtwins.stores import Store, bad_falls, heal, heal_fault, heals, lost, places_of, repair
from blindtwins.stores import rounds, weakest

from tests.values import BIG, ErrorCase, all_kinds, no_integers, no_lists, no_lots, plainly_lot

EVEN = Book(4, [(0, 1), (1, 2), (2, 3)])
SINGLES = ((0,), (1,), (2,), (3,))
STORE = Store(EVEN, SINGLES)
TWO = Store(EVEN, ((2, 3), (0, 1)))
FULL = Book(24, [(place,) for place in range(24)])
TWELVE = Store(FULL, tuple((2 * k, 2 * k + 1) for k in range(12)))
ALL = tuple(range(12))


class TestExamples(ErrorCase):

    def test_of_the_document(self):
        self.assertEqual(lost(STORE, (1,)), 0)
        self.assertEqual(heal(STORE, (1,)), ("sums", {1: (0, 2, 3)}))
        self.assertEqual(lost(STORE, (1, 2)), 1)
        self.assertEqual(heal(STORE, (1, 2)), ("twin", (1, 2)))
        self.assertEqual(bad_falls(STORE, 2), 6)

    def test_by_name(self):
        self.assertEqual(Store(disks=SINGLES, book=EVEN), STORE)
        self.assertEqual(places_of(disks=(0,), store=TWO), (2, 3))
        self.assertEqual(lost(fall=(1,), store=STORE), 0)
        self.assertEqual(heal(fall=(1,), store=STORE), ("sums", {1: (0, 2, 3)}))
        self.assertIsNone(heal_fault(answer=("sums", {}), fall=(), store=STORE))
        self.assertEqual(repair(prices=(1, 1, 1, 1), fall=(1,), place=1, store=STORE), (3, (0, 2, 3), (0, 2, 3)))
        self.assertEqual(rounds(most=3, fall=(1,), store=STORE), ([(1,)], ()))
        self.assertEqual(weakest(store=STORE)[0], 2)
        self.assertEqual(bad_falls(number=2, store=STORE), 6)
        self.assertIsNone(heals(falls=[(0,)], sums=[], store=STORE))


class TestStore(ErrorCase):

    def test_attributes(self):
        self.assertIs(STORE.book, EVEN)
        self.assertEqual(TWO.disks, ((2, 3), (0, 1)))

    def test_equal(self):
        other = Store(Book(4, [(0, 3), (1, 3), (2, 3)]), SINGLES)
        self.assertTrue(STORE == other)
        self.assertFalse(STORE == TWO)
        self.assertFalse(STORE == Store(EVEN, SINGLES[::-1]))
        self.assertFalse(STORE == Store(Book(4, []), SINGLES))
        self.assertFalse(Store(EVEN, ((0, 1), (2, 3))) == TWO)
        for value in all_kinds() + [EVEN, SINGLES, (EVEN, SINGLES)]:
            self.assertFalse(STORE == value)
            self.assertFalse(value == STORE)

    def test_one_disk_and_twelve_and_thirteen(self):
        self.assertEqual(Store(FULL, (tuple(range(24)),)).disks, (tuple(range(24)),))
        self.assertEqual(Store(Book(1, []), ((0,),)).disks, ((0,),))
        self.assertEqual(len(TWELVE.disks), 12)
        book = Book(13, [])
        thirteen = tuple((place,) for place in range(13))
        self.fails(BadDisks, -1, Store, book, thirteen)
        self.fails(BadDisks, -1, Store, book, ())
        self.assertEqual(len(Store(Book(12, []), thirteen[:12]).disks), 12)

    def test_wrong_disks(self):
        for value in all_kinds() + [list(SINGLES), {0: (0,)}]:
            if type(value) is not tuple or not 1 <= len(value) <= 12:
                with self.subTest(kind=type(value).__name__):
                    self.fails(BadDisks, -1, Store, EVEN, value)
        for disk in no_lots(4) + [(), (0,), (1, 3)]:
            with self.subTest(kind=type(disk).__name__):
                self.fails(BadDisks, 2, Store, EVEN, ((0, 1), (3,), disk))
                self.fails(BadDisks, 2, Store, EVEN, ((0, 1), (3,), disk, None))
                self.fails(BadDisks, -1, Store, EVEN, (disk,) * 13)
        self.fails(BadDisks, 0, Store, EVEN, ((), (0, 1, 2, 3)))
        self.fails(BadDisks, 1, Store, EVEN, ((0, 1, 2), (2, 3)))

    def test_places_that_lie_on_no_disk(self):
        self.fails(BadDisks, 1, Store, EVEN, ((0, 1, 2),))
        self.fails(BadDisks, 3, Store, EVEN, ((3,), (1,), (2,)))
        self.fails(BadDisks, 12, Store, Book(13, []), tuple((place,) for place in range(12)))
        # A wrong disk goes ahead of a place without one.
        self.fails(BadDisks, 1, Store, EVEN, ((0,), (0,)))

    def test_places_of(self):
        self.assertEqual(places_of(TWO, ()), ())
        self.assertEqual(places_of(TWO, (0,)), (2, 3))
        self.assertEqual(places_of(TWO, (1,)), (0, 1))
        self.assertEqual(places_of(TWO, (0, 1)), (0, 1, 2, 3))
        self.assertEqual(places_of(TWELVE, ALL), tuple(range(24)))


class TestFalls(ErrorCase):

    def test_no_fall(self):
        for store in (STORE, TWO, TWELVE, Store(Book(1, []), ((0,),))):
            self.assertEqual(lost(store, ()), 0)
            self.assertEqual(heal(store, ()), ("sums", {}))
            self.assertIsNone(heal_fault(store, (), ("sums", {})))
            self.assertIsNone(heal_fault(store, (), ("sums", {0: None, "a": 1})))
            self.assertEqual(rounds(store, (), 1), ([], ()))
            self.assertEqual(rounds(store, (), 12), ([], ()))

    def test_a_fall_of_all_disks(self):
        self.assertEqual(lost(STORE, (0, 1, 2, 3)), 3)
        self.assertEqual(heal(STORE, (0, 1, 2, 3))[0], "twin")
        self.assertEqual(lost(TWELVE, ALL), 24)
        empty = Store(Book(4, []), SINGLES)
        self.assertEqual(lost(empty, (0, 1, 2, 3)), 0)
        self.assertEqual(heal(empty, (0, 1, 2, 3)), ("sums", {0: (), 1: (), 2: (), 3: ()}))
        self.assertEqual(rounds(empty, (0, 1, 2, 3), 1), ([(0, 1, 2, 3)], ()))
        self.assertEqual(rounds(STORE, (0, 1, 2, 3), 12), ([], (0, 1, 2, 3)))
        self.assertEqual(repair(empty, 2, (0, 1, 2, 3), (1, 1, 1, 1)), (0, (), ()))
        self.assertIsNone(repair(STORE, 2, (0, 1, 2, 3), (1, 1, 1, 1)))

    def test_wrong_falls(self):
        for store in (STORE, TWO, TWELVE):
            for fall in no_lots(len(store.disks)):
                with self.subTest(kind=type(fall).__name__):
                    self.fails(BadLot, fall, places_of, store, fall)
                    self.fails(BadLot, fall, lost, store, fall)
                    self.fails(BadLot, fall, heal, store, fall)
                    self.fails(BadLot, fall, heal_fault, store, fall, None)
                    self.fails(BadLot, fall, repair, store, 0, fall, None)
                    self.fails(BadLot, fall, rounds, store, fall, None)


class TestHealFault(ErrorCase):

    def test_answers_of_no_form(self):
        near = [("sums",), ("sums", {}, ()), ["sums", {}], ("twin", {}), ("sums", ()), ("twin", [])]
        near += [({}, "sums"), ("sum", {}), ("sums", [(0, (1,))]), ("twin", (4,)), ("twin", (True,))]
        near += [(True, {}), (None, (0,)), (EVEN, {}), ("sums", None), ("twin", None), ([], {}), ({}, {})]
        for answer in near + [value for value in all_kinds() if value != ("twin", ())]:
            with self.subTest(kind=type(answer).__name__):
                self.assertEqual(heal_fault(STORE, (1,), answer), ("form",))
        for lot in no_lots(4):
            self.assertEqual(heal_fault(STORE, (1,), ("twin", lot)), ("form",))

    def test_faults_of_sums(self):
        fall = (1,)
        self.assertIsNone(heal_fault(STORE, fall, ("sums", {1: (0, 2, 3)})))
        self.assertEqual(heal_fault(STORE, fall, ("sums", {})), ("lacks", 1))
        self.assertEqual(heal_fault(STORE, fall, ("sums", {1: (1,)})), ("part", 1))
        self.assertEqual(heal_fault(STORE, fall, ("sums", {1: (0, 1, 2)})), ("part", 1))
        self.assertEqual(heal_fault(STORE, fall, ("sums", {1: ()})), ("check", 1))
        self.assertEqual(heal_fault(STORE, fall, ("sums", {1: (0, 2)})), ("check", 1))
        for value in no_lots(4):
            self.assertEqual(heal_fault(STORE, fall, ("sums", {1: value})), ("lacks", 1))

    def test_the_first_place_with_a_fault(self):
        book = Book(4, [(0, 2), (1, 3)])
        store = Store(book, ((0, 1), (2, 3)))
        self.assertIsNone(heal_fault(store, (1,), ("sums", {3: (1,), 2: (0,)})))
        self.assertEqual(heal_fault(store, (1,), ("sums", {3: (2,), 2: (1,)})), ("check", 2))
        self.assertEqual(heal_fault(store, (1,), ("sums", {3: (2,), 2: (0,)})), ("part", 3))
        self.assertEqual(heal_fault(store, (1,), ("sums", {2: (0,)})), ("lacks", 3))
        self.assertEqual(heal_fault(store, (1,), ("sums", {3: (0,)})), ("lacks", 2))
        # A sum with a fallen place has this fault, even if it tells the same.
        self.assertEqual(heal_fault(store, (1,), ("sums", {2: (2,), 3: ()})), ("part", 2))

    def test_keys_are_looked_up_as_python_does(self):
        self.assertIsNone(heal_fault(STORE, (1,), ("sums", {True: (0, 2, 3)})))
        self.assertIsNone(heal_fault(STORE, (0,), ("sums", {False: (1, 2, 3), True: None})))
        self.assertEqual(heal_fault(STORE, (1,), ("sums", {"1": (0, 2, 3)})), ("lacks", 1))
        self.assertEqual(heal_fault(STORE, (1,), ("sums", {True: True})), ("lacks", 1))

    def test_further_keys_mean_nothing(self):
        further = {0: None, 2: (1,), 4: True, "a": [], None: {}, (1,): (1,), BIG: 0, -1: EVEN, (True, ()): ()}
        self.assertIsNone(heal_fault(STORE, (1,), ("sums", {1: (0, 2, 3), **further})))
        self.assertEqual(heal_fault(STORE, (1,), ("sums", further)), ("lacks", 1))

    def test_faults_of_twins(self):
        self.assertIsNone(heal_fault(STORE, (1, 2), ("twin", (1, 2))))
        self.assertEqual(heal_fault(STORE, (1, 2), ("twin", (1,))), ("word",))
        self.assertEqual(heal_fault(STORE, (1, 2), ("twin", (0,))), ("word",))
        self.assertEqual(heal_fault(STORE, (1, 2), ("twin", ())), ("nought",))
        self.assertEqual(heal_fault(STORE, (1, 2), ("twin", (2, 3))), ("seen", 3))
        self.assertEqual(heal_fault(STORE, (1, 2), ("twin", (0, 1, 2, 3))), ("seen", 0))
        self.assertEqual(heal_fault(STORE, (), ("twin", ())), ("nought",))
        self.assertEqual(heal_fault(TWO, (0,), ("twin", (0, 1))), ("seen", 0))
        self.assertIsNone(heal_fault(TWO, (0,), ("twin", (2, 3))))


class TestRepair(ErrorCase):

    def test_the_cheapest(self):
        store = Store(Book(6, [(0, 1, 2), (3, 4), (2, 3, 5)]), ((0, 3), (1,), (2, 4), (5,)))
        self.assertEqual(repair(store, 0, (0,), (9, 3, 9, 9)), (3, (1,), (1,)))
        self.assertEqual(repair(store, 0, (0,), (0, 3, 1, 1)), (2, (2, 3), (2, 5)))
        self.assertEqual(repair(store, 0, (0, 1), (0, 0, BIG, BIG)), (2 * BIG, (2, 3), (2, 5)))
        self.assertIsNone(repair(store, 0, (0, 1, 3), (1, 1, 1, 1)))
        self.assertEqual(repair(store, 3, (0,), (0, 2, 2, 1)), (3, (2, 3), (4, 5)))
        self.assertEqual(repair(store, 3, (0,), (0, 1, 2, 2)), (3, (1, 2), (1, 2, 4)))

    def test_places_on_the_same_disk_are_not_read(self):
        self.assertIsNone(repair(Store(Book(2, [(0, 1)]), ((0, 1),)), 0, (0,), (0,)))

    def test_wrong_places(self):
        for place in no_integers(0, 3):
            with self.subTest(kind=type(place).__name__):
                self.fails(BadPlace, place, repair, STORE, place, (1,), (1, 1, 1, 1))
                self.fails(BadPlace, place, repair, STORE, place, None, None)
        self.fails(BadPlace, 24, repair, TWELVE, 24, ALL, (1,) * 12)

    def test_places_that_stand_come_last(self):
        fall, prices = (4,), (1, 1, 1)
        self.fails(BadPlace, 0, repair, STORE, 0, (1,), (1, 1, 1, 1))
        self.fails(BadPlace, 0, repair, STORE, 0, (), (1, 1, 1, 1))
        self.fails(BadLot, fall, repair, STORE, 0, fall, (1, 1, 1, 1))
        self.fails(BadLot, fall, repair, STORE, 0, fall, prices)
        self.fails(BadPrices, prices, repair, STORE, 0, (1,), prices)
        self.fails(BadPrices, prices, repair, STORE, 1, (1,), prices)

    def test_wrong_prices(self):
        values = all_kinds() + [(1, 1, 1), (1,) * 5, [1, 1, 1, 1], {0: 1, 1: 1, 2: 1, 3: 1}]
        for wrong in (True, False, -1, -BIG, "1", None, (1,), EVEN):
            values += [(wrong, 1, 1, 1), (1, 1, 1, wrong), (1, wrong, 1, 1)]
        self.fails_for_all(BadPrices, values, lambda prices: repair(STORE, 1, (1,), prices))


class TestRounds(ErrorCase):

    def test_rounds(self):
        # 2 and 3 are the sums of 0 and 1 with themselves, 4 is told by 2 and 3 on their one disk.
        book = Book(5, [(0, 2, 4), (1, 3, 4)])
        store = Store(book, ((0,), (1,), (2, 3), (4,)))
        self.assertEqual(rounds(store, (2, 3), 1), ([(2, 3), (4,)], ()))
        self.assertEqual(rounds(store, (2, 3), 2), ([(2, 3, 4)], ()))
        self.assertEqual(rounds(store, (0, 2, 3), 1), ([(3,)], (0, 2, 4)))

    def test_three_rounds(self):
        # The places tell a, b, c; a, b, a + b on one disk; a + b, c, a + b + c on another one.
        book = Book(9, [(0, 3, 5, 6, 8), (1, 4, 5, 6, 8), (2, 7, 8)])
        store = Store(book, ((0,), (1,), (2,), (3, 4, 5), (6, 7, 8)))
        self.assertEqual(rounds(store, (3, 4), 1), ([(3, 4, 7), (5, 6), (8,)], ()))
        self.assertEqual(rounds(store, (3, 4), 2), ([(3, 4, 5, 6, 7), (8,)], ()))
        self.assertEqual(rounds(store, (3, 4), 3), ([(3, 4, 5, 6, 7, 8)], ()))
        self.assertEqual(rounds(store, (2, 3, 4), 1), ([(3, 4), (5, 6)], (2, 7, 8)))

    def test_the_own_disk_is_read(self):
        # 1 and 2 are put back by a disk each; then 0, their sum, is told by its own disk alone.
        book = Book(5, [(0, 1, 3), (0, 2, 4)])
        store = Store(book, ((0, 1, 2), (3,), (4,)))
        self.assertEqual(rounds(store, (0,), 1), ([(1, 2), (0,)], ()))
        self.assertEqual(rounds(store, (0,), 2), ([(0, 1, 2)], ()))
        both = Store(Book(4, [(0, 2), (1, 3), (0, 1, 2, 3)]), ((0, 1), (2,), (3,)))
        self.assertEqual(rounds(both, (0,), 1), ([(0, 1)], ()))

    def test_least_and_greatest_most(self):
        self.assertEqual(rounds(STORE, (1,), 1), ([], (1,)))
        self.assertEqual(rounds(STORE, (1,), 2), ([], (1,)))
        self.assertEqual(rounds(STORE, (1,), 3), ([(1,)], ()))
        self.assertEqual(rounds(STORE, (1,), 12), ([(1,)], ()))
        self.assertEqual(rounds(TWELVE, ALL, 12), ([], tuple(range(24))))
        self.assertEqual(rounds(TWELVE, (11,), 12), ([], (22, 23)))
        for most in no_integers(1, 12):
            with self.subTest(kind=type(most).__name__):
                self.fails(BadCount, most, rounds, STORE, (1,), most)

    def test_each_choice_of_disks(self):
        # The last place is the sum of those of the chosen disks, and of no fewer.
        for number in range(1, 7):
            for chosen in combinations(range(6), number):
                rows = [(place, 6) if place in chosen else (place,) for place in range(6)]
                store = Store(Book(7, rows), tuple((place,) for place in range(7)))
                self.assertEqual(rounds(store, (6,), number), ([(6,)], ()))
                if number > 1:
                    self.assertEqual(rounds(store, (6,), number - 1), ([], (6,)))

    def test_twelve_disks_for_a_place(self):
        chain = Book(24, [(place, place + 1) for place in range(23)])
        store = Store(chain, TWELVE.disks)
        self.assertEqual(rounds(store, (5,), 12), ([], (10, 11)))
        single = Store(Book(12, [(place, place + 1) for place in range(11)]), tuple((k,) for k in range(12)))
        self.assertEqual(rounds(single, (5,), 11), ([(5,)], ()))
        self.assertEqual(rounds(single, (5,), 10), ([], (5,)))

    def test_the_leftmost_goes_first(self):
        fall = (4,)
        self.fails(BadLot, fall, rounds, STORE, fall, 0)


class TestWeakest(ErrorCase):

    def test_stores(self):
        number, fall, word = weakest(STORE)
        self.assertEqual((number, len(fall), word), (2, 2, fall))
        self.assertEqual(weakest(Store(Book(3, [(0, 1, 2)]), ((0,), (1,), (2,)))), (3, (0, 1, 2), (0, 1, 2)))
        self.assertEqual(weakest(Store(Book(3, [(0, 1), (2,)]), ((0,), (1,), (2,)))), (1, (2,), (2,)))
        self.assertEqual(weakest(Store(Book(2, [(0, 1)]), ((0, 1),))), (1, (0,), (0, 1)))
        self.assertIsNone(weakest(Store(Book(3, []), ((0,), (1,), (2,)))))

    def test_numbers_of_falls(self):
        self.assertEqual([bad_falls(STORE, number) for number in range(5)], [0, 0, 6, 4, 1])
        self.assertEqual([bad_falls(TWO, number) for number in range(3)], [0, 2, 1])
        self.assertEqual(bad_falls(TWELVE, 0), 0)
        self.assertEqual(bad_falls(TWELVE, 6), 924)
        self.assertEqual(bad_falls(TWELVE, 12), 1)
        self.assertEqual(bad_falls(Store(Book(1, []), ((0,),)), 1), 0)

    def test_wrong_numbers(self):
        for store in (STORE, TWO, TWELVE):
            for number in no_integers(0, len(store.disks)):
                with self.subTest(kind=type(number).__name__):
                    self.fails(BadCount, number, bad_falls, store, number)


class TestHeals(ErrorCase):

    def test_sums_tell_what_the_disks_do_not(self):
        falls = [(), (0,), (1, 2), (0, 3)]
        self.assertEqual(heals(STORE, [], falls), (2, (1, 2)))
        self.assertIsNone(heals(STORE, [(1,)], [(1, 2), (0, 1)]))
        self.assertEqual(heals(STORE, [(1,)], falls), (3, (0, 3)))
        self.assertIsNone(heals(STORE, [(0, 1)], falls))
        self.assertIsNone(heals(STORE, [(0,), (1,), (2,)], [(0, 1, 2, 3)]))
        self.assertEqual(heals(STORE, [(0,), (1,)], [(0, 1, 2, 3)]), (0, (2, 3)))
        self.assertIsNone(heals(STORE, [], []))

    def test_twelve_sums_and_thirteen(self):
        halves = [(place,) for place in range(0, 24, 2)]
        self.assertEqual(heals(TWELVE, halves, [ALL])[0], 0)
        singles = Store(Book(12, [(k,) for k in range(12)]), tuple((k,) for k in range(12)))
        self.assertIsNone(heals(singles, [(k,) for k in range(12)], [ALL]))
        self.assertEqual(heals(singles, [(k,) for k in range(11)] + [()], [ALL]), (0, (11,)))
        self.fails(BadLots, -1, heals, singles, [(k,) for k in range(12)] + [()], [ALL])

    def test_sixty_falls_and_sixty_one(self):
        falls = [(0,)] * 59 + [(1, 2)]
        self.assertEqual(heals(STORE, [], falls), (59, (1, 2)))
        self.assertIsNone(heals(STORE, [(1,)], falls))
        self.fails(BadFalls, -1, heals, STORE, [], falls + [()])

    def test_wrong_sums_and_falls(self):
        for value in no_lists() + [[()] * 13]:
            with self.subTest(kind=type(value).__name__):
                self.fails(BadLots, -1, heals, STORE, value, [])
                self.fails(BadLots, -1, heals, STORE, value, None)
        for value in no_lists() + [[()] * 61]:
            self.fails(BadFalls, -1, heals, STORE, [], value)
        for lot in no_lots(4):
            with self.subTest(kind=type(lot).__name__):
                self.fails(BadLots, 0, heals, STORE, [lot, lot], [])
                self.fails(BadLots, 11, heals, STORE, [()] * 11 + [lot], None)
                self.fails(BadLots, -1, heals, STORE, [lot] * 13, [])
                self.fails(BadFalls, 0, heals, STORE, [], [lot, lot])
                self.fails(BadFalls, 59, heals, STORE, [], [(1, 2)] * 59 + [lot])
                self.fails(BadFalls, -1, heals, STORE, [], [lot] * 61)

    def test_sums_are_of_places_and_falls_of_disks(self):
        self.assertIsNone(heals(TWO, [(3,)], [(0,)]))
        self.fails(BadFalls, 0, heals, TWO, [(3,)], [(3,)])
        self.fails(BadLots, 1, heals, TWO, [(3,), (4,)], [(3,)])


class TestNothingChanges(unittest.TestCase):

    def test_arguments(self):
        sums, falls, table = [(0,), (1,)], [(1, 2), (0,)], {1: (0, 2, 3), "x": [1], True: (0, 2, 3)}
        heals(STORE, sums, falls)
        answer = ("sums", table)
        heal_fault(STORE, (1,), answer)
        self.assertEqual((sums, falls), ([(0,), (1,)], [(1, 2), (0,)]))
        self.assertEqual(list(table.items()), [(1, (0, 2, 3)), ("x", [1])])
        self.assertEqual((STORE.book, STORE.disks), (Book(4, [(0, 1), (1, 2), (2, 3)]), SINGLES))

    def test_new_lists_and_dicts(self):
        heal(STORE, (1,))[1].clear()
        self.assertEqual(heal(STORE, (1,)), ("sums", {1: (0, 2, 3)}))
        rounds(STORE, (1,), 3)[0].clear()
        self.assertEqual(rounds(STORE, (1,), 3), ([(1,)], ()))

    def test_kinds(self):
        kind, table = heal(TWO, ())
        self.assertEqual((type(kind), type(table)), (str, dict))
        done, never = rounds(STORE, (1,), 3)
        self.assertEqual((type(done), plainly_lot(never, 4)), (list, True))
        self.assertEqual(type(bad_falls(STORE, 0)), int)


if __name__ == "__main__":
    unittest.main()
