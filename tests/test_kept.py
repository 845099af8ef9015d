"""Points 35 to 37: the examples, ordinary inputs, edges, wrong inputs, and what stays as it was."""

import unittest

from blindtwins.books import Book
from blindtwins.errors import BadDeed, BadLooks, BadLot, BadSize, Lost, TooMany, Unlike
from blindtwins.kept import Kept, between, from_books, gain, mends, moved_off, weakest_wires
from blindtwins.wires import State

from tests.values import ErrorCase, all_kinds, no_integers, no_lists, no_lots, no_pairs

TEN = tuple(range(10))
ALL = (0, 1, 2, 3)
# The words of 7 bits told by these rows are kept apart by three turned bits.
SEVEN = [(0, 2, 4, 6), (1, 2, 5, 6), (3, 4, 5, 6)]


def four():
    return Kept(4, [(ALL, ()), ((), ALL)])


def five():
    """Each look is the one ahead of it, one wire further."""
    return Kept(5, [((0, 3), (1, 2)), ((1, 4), (2, 3)), ((0, 2), (3, 4)), ((1, 3), (0, 4))])


class TestExamples(ErrorCase):

    def test_of_the_document(self):
        kept = Kept(4, [((0, 1, 2, 3), ()), ((), (0, 1, 2, 3))])
        self.assertEqual([kept.kept, gain(kept, (0,)), mends(kept, (0,))], [2, 0, None])
        self.assertEqual([gain(kept, (1, 2, 3)), gain(kept, (0, 1)), weakest_wires(kept)], [4, 2, 2])

    def test_by_name(self):
        kept = Kept(looks=[(ALL, ()), ((), ALL)], wires=4)
        self.assertEqual((gain(part=(0, 1), kept=kept), mends(fall=(0,), kept=kept)), (2, None))
        self.assertEqual(moved_off(deed=((0, 1), ()), kept=kept, fall=(0,)), ((2, 3), ()))
        self.assertEqual(weakest_wires(kept=kept), 2)
        self.assertEqual(between(part=(0,), kept=Kept(1, [((0,), ())])), 0)
        self.assertEqual(from_books(turns=Book(4, [ALL]), flips=Book(4, [ALL])), kept)


class TestKept(ErrorCase):

    def test_attributes(self):
        self.assertEqual((four().wires, four().kept), (4, 2))
        self.assertEqual((five().wires, five().kept), (5, 1))

    def test_no_look(self):
        for wires in (1, 10):
            kept = Kept(wires, [])
            self.assertEqual((kept.wires, kept.kept), (wires, wires))
            self.assertEqual(weakest_wires(kept), 1)
            self.assertEqual([gain(kept, ()), gain(kept, (0,))], [0, 2])
            self.assertEqual(gain(kept, TEN[:wires]), 2 * wires)
            self.assertIsNone(mends(kept, ()))
            self.assertEqual(moved_off(kept, (), ((0,), (0,))), ((0,), (0,)))
            self.fails(Lost, None, between, kept, ())

    def test_as_many_looks_as_wires(self):
        for wires in (1, 10):
            kept = Kept(wires, [((), (wire,)) for wire in range(wires)])
            self.assertEqual((kept.wires, kept.kept), (wires, 0))
            self.assertIsNone(weakest_wires(kept))
            for part in ((), (0,), TEN[:wires]):
                self.assertEqual((gain(kept, part), mends(kept, part), between(kept, part)), (0, None, 0))
            self.assertEqual(moved_off(kept, TEN[:wires], ((), (0,))), ((), ()))
            self.fails(BadLooks, -1, Kept, wires, [((), (0,))] * (wires + 1))

    def test_empty_part_and_all_wires(self):
        for kept in (four(), five()):
            whole = tuple(range(kept.wires))
            self.assertEqual((gain(kept, ()), gain(kept, whole)), (0, 2 * kept.kept))
            self.assertIsNone(mends(kept, ()))
            self.assertIsNotNone(mends(kept, whole))

    def test_equal(self):
        self.assertEqual(four(), Kept(4, [(ALL, ALL), ((), ALL)]))
        self.assertFalse(four() == Kept(4, [(ALL, ())]))
        self.assertFalse(Kept(1, []) == Kept(2, []))
        self.assertFalse(Kept(4, [((0,), ())]) == Kept(4, [((), (0,))]))
        self.assertTrue(four() != five())

    def test_equal_to_nothing_else(self):
        for value in all_kinds() + [State(1, [(0, (), (0,))]), Book(2, [(1,)]), [((), (0,))]]:
            if not isinstance(value, Kept):
                self.assertFalse(Kept(1, [((), (0,))]) == value)
                self.assertFalse(value == Kept(1, [((), (0,))]))
        self.assertEqual(all_kinds().count(Kept(1, [])), 1)


class TestWhatIsKept(ErrorCase):

    def test_any_two_of_five_wires_can_be_mended(self):
        kept = five()
        self.assertEqual(weakest_wires(kept), 3)
        for first in range(5):
            for second in range(first + 1, 5):
                rest = tuple(wire for wire in range(5) if wire not in (first, second))
                self.assertIsNone(mends(kept, (first, second)))
                self.assertEqual((gain(kept, (first, second)), gain(kept, rest)), (0, 2))

    def test_any_two_of_seven_wires_can_be_mended(self):
        kept = from_books(Book(7, SEVEN), Book(7, SEVEN))
        self.assertEqual((kept.wires, kept.kept, weakest_wires(kept)), (7, 1, 3))

    def test_moved_off(self):
        flips = ((0, 1), ())
        self.assertEqual(moved_off(four(), (1,), flips), ((2, 3), ()))
        self.assertEqual(moved_off(four(), (0,), flips), ((2, 3), ()))
        kept = five()
        found = moved_off(kept, (0, 1), ((0, 1, 2, 3, 4), ()))
        self.assertTrue(all(wire in (2, 3, 4) for lot in found for wire in lot))

    def test_moved_off_what_is_lost(self):
        with self.assertRaises(Lost) as caught:
            moved_off(four(), (0, 1), ((0, 1), ()))
        self.assertIn(caught.exception.what, [((0, 1), ()), ((), (0, 1)), ((0, 1), (0, 1))])

    def test_between(self):
        pairs = Kept(4, [((0, 2), ()), ((), (0, 2)), ((1, 3), ()), ((), (1, 3))])
        for part, common in (((), 0), ((0,), 1), ((0, 1), 2), ((0, 2), 0), ((0, 1, 2), 1), (ALL, 0)):
            self.assertEqual(between(pairs, part), common)


class TestFromBooks(ErrorCase):

    def test_ten_places_and_eleven(self):
        kept = from_books(Book(10, [TEN]), Book(10, [(0, 1)]))
        self.assertEqual((kept.wires, kept.kept), (10, 8))
        for size in (11, 24):
            self.fails(TooMany, 10, from_books, Book(size, []), Book(size, []))

    def test_unlike_sizes(self):
        self.fails(Unlike, 3, from_books, Book(4, []), Book(3, []))
        self.fails(Unlike, 11, from_books, Book(10, []), Book(11, []))
        self.fails(Unlike, 24, from_books, Book(11, []), Book(24, []))
        self.fails(Unlike, 1, from_books, Book(2, [(0, 1)]), Book(1, [(0,)]))

    def test_words_that_do_not_go_together(self):
        self.fails(BadLooks, None, from_books, Book(2, [(0, 1)]), Book(2, [(1,)]))
        self.fails(TooMany, 10, from_books, Book(11, [(0,)]), Book(11, [(0,)]))

    def test_dim_0(self):
        self.assertEqual(from_books(Book(3, []), Book(3, [])), Kept(3, []))
        whole = from_books(Book(1, []), Book(1, [(0,)]))
        self.assertEqual(whole, Kept(1, [((), (0,))]))


class TestWrong(ErrorCase):

    def test_wires(self):
        for looks in ([], [((), ())], None):
            self.fails_for_all(BadSize, no_integers(1, 10), lambda wires: Kept(wires, looks))

    def test_no_lists(self):
        for value in no_lists() + [[((), (0,))] * 3, [None] * 3]:
            self.fails(BadLooks, -1, Kept, 2, value)

    def test_no_pairs(self):
        for value in no_pairs(2):
            self.fails(BadLooks, 0, Kept, 2, [value, None])
            self.fails(BadLooks, 1, Kept, 2, [((), (0,)), value])

    def test_looks_that_do_not_fit(self):
        flip, turn = ((0,), ()), ((), (0,))
        self.fails(BadLooks, 0, Kept, 3, [((), ())])
        self.fails(BadLooks, 1, Kept, 3, [flip, turn])
        self.fails(BadLooks, 1, Kept, 3, [flip, flip, None])
        self.fails(BadLooks, 2, Kept, 3, [flip, ((1,), ()), ((0, 1), ())])
        self.fails(BadLooks, 2, Kept, 3, [flip, ((1,), ()), None])

    def test_parts(self):
        whole = Kept(2, [((0,), ()), ((1,), ())])
        for kept in (whole, Kept(2, []), Kept(2, [((0, 1), ())])):
            for function in (gain, mends, between):
                self.fails_for_all(BadLot, no_lots(2), lambda part: function(kept, part))
            self.fails_for_all(BadLot, no_lots(2), lambda fall: moved_off(kept, fall, None))

    def test_deeds(self):
        # Also behind a fall that cannot be mended.
        for kept, fall in ((Kept(2, [((0, 1), ())]), ()), (Kept(2, [((0, 1), ())]), (0, 1)), (Kept(2, []), (0,))):
            self.fails_for_all(BadDeed, no_pairs(2), lambda deed: moved_off(kept, fall, deed))
        for deed in (((), (0,)), ((0, 1), (1,)), ((0,), (0,))):
            for fall in ((), (0, 1)):
                self.fails(BadDeed, deed, moved_off, Kept(2, [((0, 1), ())]), fall, deed)

    def test_lost(self):
        self.fails(Lost, None, between, Kept(2, [((0, 1), ())]), (0,))
        with self.assertRaises(Lost):
            moved_off(Kept(2, []), (0,), ((), ()))


class TestNothingChanges(ErrorCase):

    def test_lists_that_are_passed(self):
        looks = [(ALL, ()), ((), ALL)]
        kept = Kept(4, looks)
        self.assertEqual(looks, [(ALL, ()), ((), ALL)])
        looks.clear()
        self.assertEqual((kept, kept.kept), (four(), 2))

    def test_kept_never_changes(self):
        kept = four()
        gain(kept, (0,))
        mends(kept, (0, 1))
        moved_off(kept, (0,), (ALL, ()))
        weakest_wires(kept)
        self.assertEqual((kept, kept.wires, kept.kept), (four(), 4, 2))


if __name__ == "__main__":
    unittest.main()
