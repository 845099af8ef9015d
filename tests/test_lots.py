"""Points 8 and 9."""

import unittest

from blindtwins.errors import BadLot, BadLots, BadSize
from blindtwins.lots import bit_at, is_lot, plus, total

from tests import plain
from tests.values import BIG, ErrorCase, all_kinds, no_lots, plainly_lot, plainly_number

FULL = tuple(range(60))


class TestIsLot(ErrorCase):

    def test_against_the_definition(self):
        for size in (0, 1, 2, 5, 24, 59, 60):
            for value in all_kinds() + [(size,), (size - 1,), tuple(range(size)), FULL]:
                with self.subTest(size=size, kind=type(value).__name__):
                    self.assertIs(is_lot(value, size), plainly_lot(value, size))

    def test_edges_of_the_size(self):
        self.assertIs(is_lot((), 0), True)
        self.assertIs(is_lot((0,), 0), False)
        self.assertIs(is_lot(FULL, 60), True)
        self.assertIs(is_lot((60,), 60), False)
        self.assertIs(is_lot((59,), 59), False)

    def test_flags_are_no_numbers(self):
        self.assertIs(is_lot((0, 1), 2), True)
        self.assertIs(is_lot((False, 1), 2), False)
        self.assertIs(is_lot((0, True), 2), False)

    def test_wrong_sizes(self):
        allowed = range(61)
        wrong = [size for size in all_kinds() if not (plainly_number(size) and size in allowed)]
        self.fails_for_all(BadSize, wrong, lambda size: is_lot((), size))
        self.fails_for_all(BadSize, wrong, lambda size: is_lot(None, size))

    def test_by_name(self):
        self.assertIs(is_lot(size=3, value=(0, 2)), True)


class TestPlusAndBit(ErrorCase):

    def test_examples(self):
        self.assertEqual(plus((0, 2, 3), (2, 5)), (0, 3, 5))
        self.assertEqual(bit_at((0, 2), (2, 5)), 1)
        self.assertEqual(total([(0, 1), (1, 2), (0,)]), (2,))

    def test_against_the_definition(self):
        for one in plain.all_lots(5):
            for other in plain.all_lots(5):
                self.assertEqual(plus(one, other), plain.add(one, other))
                self.assertEqual(bit_at(one, other), plain.bit(one, other))

    def test_greatest_lots(self):
        self.assertEqual(plus(FULL, (0, 59)), FULL[1:59])
        self.assertEqual(plus(FULL, FULL), ())
        self.assertEqual(bit_at(FULL, FULL), 0)
        self.assertEqual(bit_at(FULL, FULL[1:]), 1)
        self.assertIs(type(bit_at(FULL, FULL)), int)

    def test_wrong_lots(self):
        for value in no_lots(60):
            with self.subTest(kind=type(value).__name__):
                self.fails(BadLot, value, plus, value, (0,))
                self.fails(BadLot, value, plus, (0,), value)
                self.fails(BadLot, value, bit_at, value, (0,))
                self.fails(BadLot, value, bit_at, (0,), value)

    def test_first_wrong_argument(self):
        first, second = (BIG,), [0]
        self.fails(BadLot, first, plus, first, second)
        self.fails(BadLot, first, bit_at, first, second)
        self.fails(BadLot, first, plus, other=second, one=first)

    def test_by_name(self):
        self.assertEqual(plus(other=(1,), one=(0,)), (0, 1))
        self.assertEqual(bit_at(lot=(1,), word=(0, 1)), 1)
        self.assertEqual(total(lots=[(1,)]), (1,))


class TestTotal(ErrorCase):

    def test_sums(self):
        self.assertEqual(total([]), ())
        self.assertEqual(total([()]), ())
        self.assertEqual(total([(59,)] * 3), (59,))
        self.assertEqual(total(plain.all_lots(4) * 2), ())
        self.assertEqual(total([FULL, (0,), (59,)]), FULL[1:59])

    def test_long_lists_are_no_fault(self):
        self.assertEqual(total([(0, 1)] * 2001), (0, 1))

    def test_no_list(self):
        for value in all_kinds():
            if type(value) is not list:
                with self.subTest(kind=type(value).__name__):
                    self.fails(BadLots, -1, total, value)

    def test_first_wrong_item(self):
        for value in no_lots(60):
            with self.subTest(kind=type(value).__name__):
                self.fails(BadLots, 0, total, [value, value])
                self.fails(BadLots, 2, total, [(0,), (), value, (1,), None])

    def test_the_list_stays(self):
        lots = [(0, 1), (1, 2)]
        total(lots)
        self.assertEqual(lots, [(0, 1), (1, 2)])


if __name__ == "__main__":
    unittest.main()
