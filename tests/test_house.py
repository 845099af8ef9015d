"""Point 44: the examples, ordinary inputs, edges, wrong inputs, and what stays as it was."""

import unittest

from blindtwins.books import Book
from blindtwins.errors import BadDeeds, BadLot, BadPlace, Blind, Fallen, Standing
from blindtwins.house import House

from tests.values import ErrorCase, all_kinds, no_integers, no_lists, no_lots, plainly_number

KINDS = ("look", "ask", "fall", "heal")


def even():
    return Book(3, [(0, 1), (1, 2)])


def house():
    return House(even(), (0, 2))


def standing(one):
    return one.book, one.seen, one.fallen, one.asked, len(one)


class HouseCase(ErrorCase):

    def refused(self, error, what, one, call, *args):
        """The call raises this error and leaves the house as it was."""
        before = standing(one)
        self.fails(error, what, call, *args)
        self.assertEqual(standing(one), before)

    def blind(self, words, one, call, *args):
        """The call raises Blind with one of these words, and leaves the house as it was."""
        before = standing(one)
        with self.assertRaises(Blind) as caught:
            call(*args)
        self.assertIs(type(caught.exception), Blind)
        self.assertIn(caught.exception.what, words)
        self.assertEqual(standing(one), before)


class TestExamples(HouseCase):

    def test_of_the_document(self):
        one = House(Book(3, [(0, 1), (1, 2)]), (0, 2))
        told = [one.look(0), one.look(1), one.ask((2,)), one.fall(2), one.heal(2), len(one)]
        self.assertEqual(told, [1, 0, 1, None, None, 5])

    def test_blind(self):
        one = House(Book(3, [(0, 1), (1, 2)]), (0, 2))
        one += [("look", 0)]
        self.blind([(1, 2)], one, one.ask, (2,))

    def test_by_name(self):
        one = House(word=(0, 2), book=even())
        self.assertEqual([one.look(place=0), one.ask(wish=(0,)), one.fall(place=1), one.heal(place=1)],
                         [1, 1, None, None])
        self.assertEqual(one.trial(deeds=[("look", 2)]), [1])
        self.assertEqual(list(one.watch(deeds=[("look", 2)])), [1])
        self.assertIs(one.undo(), True)


class TestHouse(HouseCase):

    def test_without_a_deed(self):
        book = even()
        one = House(book, (0, 2))
        self.assertIs(one.book, book)
        self.assertEqual((one.seen, one.fallen, one.asked, len(one)), ((), (), 0, 0))
        self.assertIs(one.undo(), False)
        self.assertEqual(standing(one), (even(), (), (), 0, 0))
        self.assertEqual(one.trial([]), [])
        self.assertFalse(0 in one)

    def test_wrong_words(self):
        for word in no_lots(3) + [(0,), (1,), (0, 1, 2)]:
            self.fails(BadLot, word, House, even(), word)

    def test_looks(self):
        one = house()
        self.assertEqual([one.look(2), one.look(0), one.look(1)], [1, 1, 0])
        self.assertEqual((one.seen, one.asked, len(one)), ((0, 1, 2), 0, 3))

    def test_a_place_twice(self):
        one = house()
        self.assertEqual([one.look(2), one.look(2)], [1, 1])
        self.assertEqual((one.seen, len(one)), ((2,), 2))
        self.assertIs(one.undo(), True)
        self.assertEqual((one.seen, len(one)), ((2,), 1))
        self.assertIs(one.undo(), True)
        self.assertEqual((one.seen, len(one)), ((), 0))

    def test_asks(self):
        one = house()
        self.assertEqual(one.ask(()), 0)
        self.assertEqual(one.ask((0, 1, 2)), 0)
        self.blind([(0, 1), (0, 2)], one, one.ask, (0,))
        one.look(0)
        self.blind([(1, 2)], one, one.ask, (1,))
        self.assertEqual([one.ask((0,)), one.ask((1, 2))], [1, 1])
        self.assertEqual((one.seen, one.asked, len(one)), ((0,), 4, 5))

    def test_falls(self):
        one = house()
        one.look(0)
        self.assertIsNone(one.fall(0))
        self.assertIsNone(one.fall(1))
        self.assertEqual((one.seen, one.fallen, len(one)), ((), (0, 1), 3))
        for place in (0, 1):
            self.refused(Fallen, place, one, one.fall, place)
            self.refused(Fallen, place, one, one.look, place)
        self.assertEqual(one.look(2), 1)

    def test_what_fell_is_not_seen(self):
        one = house()
        one += [("look", 0), ("look", 1), ("fall", 0)]
        self.blind([(0, 2)], one, one.ask, (2,))
        self.assertEqual(one.ask((1,)), 0)
        # Asked is what the seen places know, also where the wish has fallen.
        one.look(2)
        self.assertEqual(one.ask((0,)), 1)

    def test_heals(self):
        one = house()
        one.look(0)
        one.fall(0)
        self.assertIsNone(one.heal(0))
        self.assertEqual((one.seen, one.fallen, len(one)), ((), (), 3))
        self.assertEqual(one.look(0), 1)
        one.fall(0)
        one.fall(2)
        self.blind([(0, 2)], one, one.heal, 0)
        self.blind([(0, 2)], one, one.heal, 2)
        self.refused(Standing, 1, one, one.heal, 1)
        # A place at which all words are 0 is always known.
        bare = House(Book(1, []), ())
        bare.fall(0)
        self.assertIsNone(bare.heal(0))

    def test_undo_of_each_sort(self):
        one = house()
        one.look(0)
        states = [standing(one)]
        one.ask((0,))
        states.append(standing(one))
        one.fall(0)
        states.append(standing(one))
        one.heal(0)
        self.assertEqual(standing(one), (even(), (), (), 1, 4))
        for before in states[::-1]:
            self.assertIs(one.undo(), True)
            self.assertEqual(standing(one), before)
        self.assertEqual((one.seen, one.asked), ((0,), 0))
        self.assertIs(one.undo(), True)
        self.assertIs(one.undo(), False)
        self.assertEqual(standing(one), standing(house()))

    def test_undo_of_undone(self):
        one = house()
        one.look(0)
        one.undo()
        one.look(1)
        self.assertEqual((one.seen, len(one)), ((1,), 1))
        one.undo()
        self.assertIs(one.undo(), False)

    def test_in(self):
        one = house()
        one += [("look", 1), ("look", 2), ("fall", 2), ("look", 0)]
        self.assertEqual([place in one for place in range(4)], [True, True, False, False])
        for value in all_kinds() + [-1, 3, "0", (0,), 1.5, one]:
            if not plainly_number(value):
                self.assertIs(value in one, False)
        self.assertFalse(True in one or False in one)

    def test_equal_to_itself_alone(self):
        self.assertFalse(house() == house())


class TestTrial(HouseCase):

    def test_what_the_deeds_tell(self):
        one = house()
        one.look(1)
        before = standing(one)
        deeds = [("look", 0), ("ask", (2,)), ("fall", 0), ("heal", 0), ("ask", (1,))]
        self.assertEqual(one.trial(deeds), [1, 1, None, None, 0])
        self.assertEqual(standing(one), before)
        self.assertEqual(one.trial(deeds), [1, 1, None, None, 0])
        one.undo()
        self.assertEqual(standing(one), standing(house()))

    def test_an_error_of_a_deed(self):
        one = house()
        self.blind([(0, 1), (1, 2)], one, one.trial, [("look", 2), ("fall", 2), ("ask", (1,))])
        self.refused(Fallen, 2, one, one.trial, [("fall", 2), ("look", 2)])
        self.refused(Standing, 2, one, one.trial, [("look", 2), ("heal", 2), ("fall", 9)])
        wrong = (5,)
        self.refused(BadLot, wrong, one, one.trial, [("ask", wrong)])
        self.refused(BadPlace, 5, one, one.trial, [("look", 5)])

    def test_new_lists(self):
        one = house()
        one.trial([("look", 0)]).clear()
        self.assertEqual(one.trial([("look", 0)]), [1])


class TestWatch(HouseCase):

    def test_deeds_are_done_one_by_one(self):
        one = house()
        told = []
        for bit in one.watch([("look", 0), ("fall", 1), ("heal", 1), ("ask", (0,))]):
            told.append((bit, one.seen, one.fallen, one.asked, len(one)))
        self.assertEqual(told, [(1, (0,), (), 0, 1), (None, (0,), (1,), 0, 2), (None, (0,), (), 0, 3),
                                (1, (0,), (), 1, 4)])
        self.assertIs(one.undo(), True)
        self.assertEqual((one.asked, len(one)), (0, 3))

    def test_nothing_is_done_ahead_of_the_iteration(self):
        one = house()
        steps = one.watch([("look", 0), ("look", 1)])
        self.assertEqual(len(one), 0)
        self.assertEqual((next(steps), len(one)), (1, 1))
        wrong = one.watch(None)
        self.fails(BadDeeds, -1, next, wrong)
        self.fails(BadDeeds, 0, list, one.watch([("look", 0, 0)]))

    def test_left_early(self):
        one = house()
        for bit in one.watch([("look", 0), ("look", 1), ("look", 2)]):
            if one.seen == (0, 1):
                break
        self.assertEqual((one.seen, len(one)), ((0, 1), 2))
        self.assertEqual(one.look(2), 1)
        self.assertEqual([one.undo(), one.undo(), one.undo(), one.undo()], [True, True, True, False])

    def test_deeds_ahead_of_a_refused_one_stay(self):
        one = house()
        told = []
        with self.assertRaises(Fallen) as caught:
            for bit in one.watch([("look", 0), ("fall", 2), ("look", 2), ("look", 1)]):
                told.append(bit)
        self.assertEqual((told, caught.exception.what), ([1, None], 2))
        self.assertEqual(standing(one), (even(), (0,), (2,), 0, 2))
        with self.assertRaises(Blind):
            list(one.watch([("look", 1), ("heal", 2), ("fall", 1), ("ask", (1,))]))
        self.assertEqual(standing(one), (even(), (0,), (1,), 0, 5))

    def test_bad_deeds_go_ahead(self):
        one = house()
        self.refused(BadDeeds, 1, one, lambda: list(one.watch([("look", 0), None])))

    def test_what_a_caller_does_with_the_list(self):
        one = house()
        deeds = [("look", 0), ("look", 1)]
        told = []
        for bit in one.watch(deeds):
            deeds.clear()
            told.append(bit)
        self.assertEqual(told, [1, 0])


class TestAll(HouseCase):

    def test_all_or_none(self):
        one = same = house()
        one += [("look", 0), ("ask", (0,)), ("fall", 0), ("heal", 0)]
        self.assertIs(one, same)
        self.assertEqual(standing(one), (even(), (), (), 1, 4))
        for error, what, deed in ((Fallen, 1, ("look", 1)), (Standing, 0, ("heal", 0)), (BadPlace, 3, ("fall", 3))):
            self.refused(error, what, one, self.add, one, [("look", 2), ("fall", 1), deed])
        self.blind([(1, 2)], one, self.add, one, [("look", 0), ("ask", (2,))])
        self.refused(BadDeeds, 1, one, self.add, one, [("look", 0), ("look",)])
        self.refused(BadDeeds, -1, one, self.add, one, None)
        self.assertEqual([one.undo() for _ in range(5)], [True] * 4 + [False])

    def add(self, one, deeds):
        one += deeds

    def test_none(self):
        one = same = house()
        one += []
        self.assertIs(one, same)
        self.assertEqual(len(one), 0)

    def test_undo_is_one_deed(self):
        one = house()
        one += [("look", 0), ("look", 1)]
        one.undo()
        self.assertEqual((one.seen, len(one)), ((0,), 1))

    def test_a_house_is_no_list(self):
        one = house()
        self.refused(BadDeeds, -1, one, self.add, one, house())


class TestDeeds(HouseCase):

    def ways(self, one):
        return [one.trial, lambda deeds: list(one.watch(deeds)), lambda deeds: TestAll.add(self, one, deeds)]

    def test_200_deeds_and_201(self):
        for number, way in enumerate(self.ways(house())):
            one = house()
            self.ways(one)[number]([("look", 0)] * 200)
            self.assertEqual(len(one), 0 if number == 0 else 200)
            self.refused(BadDeeds, -1, one, self.ways(one)[number], [("look", 0)] * 201)
            self.refused(BadDeeds, -1, one, self.ways(one)[number], [None] * 201)

    def test_no_lists(self):
        one = house()
        for way in self.ways(one):
            for value in no_lists() + [(("look", 0),)]:
                self.refused(BadDeeds, -1, one, way, value)

    def test_no_pairs(self):
        one = house()
        wrong = [("look",), ("look", 0, 0), ["look", 0], ("Look", 0), ("undo", None), (b"look", 0), ((), 0)]
        wrong += [(kind, 0) for kind in all_kinds()]
        wrong += [value for value in all_kinds()]
        for way in self.ways(one):
            for deed in wrong:
                self.refused(BadDeeds, 0, one, way, [deed])
                self.refused(BadDeeds, 1, one, way, [("look", 9), deed, None])

    def test_wrong_arguments_of_deeds(self):
        one = house()
        one.fall(2)
        for way in self.ways(one):
            for value in no_integers(0, 2):
                for kind in ("look", "fall", "heal"):
                    self.refused(BadPlace, value, one, way, [(kind, value)])
            for value in no_lots(3):
                self.refused(BadLot, value, one, way, [("ask", value)])

    def test_wrong_places(self):
        one = house()
        for method in (one.look, one.fall, one.heal):
            for value in no_integers(0, 2):
                self.refused(BadPlace, value, one, method, value)

    def test_wrong_wishes(self):
        one = house()
        for value in no_lots(3):
            self.refused(BadLot, value, one, one.ask, value)

    def test_lists_that_are_passed(self):
        one = house()
        deeds = [("look", 0), ("ask", (0,)), ("fall", 1)]
        one.trial(deeds)
        list(one.watch(deeds[:1]))
        one += deeds
        self.assertEqual(deeds, [("look", 0), ("ask", (0,)), ("fall", 1)])
        deeds.clear()
        self.assertEqual(len(one), 4)

    def test_the_book_and_the_word_stay(self):
        book, word = even(), (0, 2)
        one = House(book, word)
        one += [("look", 0), ("fall", 0), ("heal", 0), ("look", 0)]
        self.assertEqual((book, word), (even(), (0, 2)))


if __name__ == "__main__":
    unittest.main()
