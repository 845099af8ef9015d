"""Points 24 to 28: wrong inputs, and which error comes first."""

import unittest

from blindtwins.books import Book
from blindtwins.deals import Deal
from blindtwins.errors import BadGroup, BadHands, BadLot, BadName, BadNames, BadSecrets, TooMany

from tests.values import NO_NAMES, ErrorCase, all_kinds, no_lists, no_lots, plainly_lot, plainly_name

BOOK = Book(4, [(0, 1), (1, 2), (2, 3)])
HANDS = {"b": (1, 2), "a": (0,), "c": ()}
SECRETS = {"t": (0, 1), "s": (3,)}
DEAL = Deal(BOOK, HANDS, SECRETS)


def no_names_of(names):
    """Values of all kinds that are none of these names."""
    near = ["", "A", "d", "ab", "a ", "aa", ("a",), ["s"], {"a": 1}, b"a"]
    return [value for value in all_kinds() + near if not (type(value) is str and value in names)]


def no_dicts_of_names():
    """Values of all kinds that are no dicts from 1 to 10 names."""
    values = []
    for value in all_kinds():
        if type(value) is not dict or not all(plainly_name(key) for key in value) or not value:
            values.append(value)
    values += [{name: (0,), "b": (1,)} for name in NO_NAMES]
    values += [{"b": None, name: (0,)} for name in NO_NAMES]
    values += [{letter: (0,) for letter in "abcdefghijk"}, {letter: None for letter in "abcdefghijk"}]
    return values + [[("a", (0,))], (("a", (0,)),), {("a",): (0,)}, {0: (0,)}]


def groups_that_are_wrong():
    values = no_lists() + [[value] for value in no_names_of("abc")]
    values += [["a", value] for value in no_names_of("abc")]
    values += [["a", "a"], ["a", "b", "a"], ["a", "b", "c", "c"], ["c"] * 1000, ["s"], ["a", "t"]]
    return values + [value for value in all_kinds() if type(value) is list and value != []]


class TestConstructor(ErrorCase):

    def test_one_name_and_ten_and_eleven(self):
        ten = {letter * 12: (k % 4,) for k, letter in enumerate("abcdefghij")}
        deal = Deal(BOOK, ten, ten)
        self.assertEqual((deal.hands, deal.secrets), (ten, ten))
        deal = Deal(BOOK, {"z": ()}, {"z": (0, 1, 2, 3)})
        self.assertEqual((deal.hands, deal.secrets), ({"z": ()}, {"z": (0, 1, 2, 3)}))
        eleven = {letter: () for letter in "abcdefghijk"}
        for wrong in ({}, eleven):
            self.fails(BadHands, None, Deal, BOOK, wrong, SECRETS)
            self.fails(BadSecrets, None, Deal, BOOK, HANDS, wrong)

    def test_no_dicts_of_names(self):
        for value in no_dicts_of_names():
            with self.subTest(kind=type(value).__name__):
                self.fails(BadHands, None, Deal, BOOK, value, SECRETS)
                self.fails(BadHands, None, Deal, BOOK, value, None)
                self.fails(BadSecrets, None, Deal, BOOK, HANDS, value)

    def test_wrong_lots(self):
        for lot in no_lots(4):
            with self.subTest(kind=type(lot).__name__):
                self.fails_with(BadHands, "b", BOOK, {"c": lot, "b": lot, "a": (0,)}, SECRETS)
                self.fails_with(BadHands, "aa", BOOK, {"b": lot, "aa": lot}, None)
                self.fails_with(BadSecrets, "a", BOOK, HANDS, {"b": lot, "a": lot})
                self.fails_with(BadSecrets, "b", BOOK, HANDS, {"b": lot, "a": (0,)})
        self.fails_with(BadHands, "b", BOOK, {"a": (3,), "b": (4,)}, {})

    def fails_with(self, error, name, *args):
        with self.assertRaises(error) as caught:
            Deal(*args)
        self.assertEqual((type(caught.exception.what), caught.exception.what), (str, name))

    def test_all_kinds_of_names(self):
        for value in ["a", "z", "az", "abcdefghijkl"]:
            self.assertEqual(Deal(BOOK, {value: ()}, {value: ()}).hands, {value: ()})


class TestGroups(ErrorCase):

    def test_wrong_groups(self):
        for group in groups_that_are_wrong():
            with self.subTest(kind=type(group).__name__):
                self.fails(BadGroup, group, DEAL.knows, group, "s")
                self.fails(BadGroup, group, DEAL.knows_fault, group, "s", ("sum", (), ()))
                self.fails(BadGroup, group, DEAL.left, group, ["s"])
                self.fails(BadGroup, group, DEAL.agreed, group, [])
                self.fails(BadGroup, group, DEAL.agreed_lots, group, [])
                self.fails(BadGroup, group, DEAL.agreed_fault, group, [], [])
                self.fails(BadGroup, group, DEAL.agreed, ["a"], group)
                self.fails(BadGroup, group, DEAL.agreed_lots, ["a"], group)
                self.fails(BadGroup, group, DEAL.agreed_fault, ["a"], group, None)

    def test_hands_that_agree_are_not_none(self):
        empty, wrong = [], ["x"]
        for method in (DEAL.agreed, DEAL.agreed_lots):
            self.fails(BadGroup, empty, method, empty, [])
            self.fails(BadGroup, empty, method, empty, wrong)
        self.fails(BadGroup, empty, DEAL.agreed_fault, empty, wrong, [])
        self.assertEqual(DEAL.agreed(["c"], empty), 0)

    def test_hands_that_left(self):
        group = ["a"]
        self.fails(BadGroup, group, DEAL.leave("a").knows, group, "s")
        self.fails(BadGroup, group, DEAL.hand_over("a", "b").knows, group, "s")

    def test_the_leftmost_goes_first(self):
        group, other, name = ["x"], None, "x"
        self.fails(BadGroup, group, DEAL.knows, group, name)
        self.fails(BadGroup, group, DEAL.knows_fault, group, name, None)
        self.fails(BadGroup, group, DEAL.left, group, other)
        for method in (DEAL.agreed, DEAL.agreed_lots):
            self.fails(BadGroup, group, method, group, other)
        self.fails(BadGroup, group, DEAL.agreed_fault, group, other, None)
        self.fails(BadName, name, DEAL.knows_fault, ["a"], name, None)


class TestNames(ErrorCase):

    def test_wrong_secrets(self):
        for name in no_names_of("st"):
            with self.subTest(kind=type(name).__name__):
                self.fails(BadName, name, DEAL.knows, ["a"], name)
                self.fails(BadName, name, DEAL.knows_fault, [], name, ("sum", (), ()))
                self.fails(BadName, name, DEAL.least_groups, name)
                self.fails(BadName, name, DEAL.least_blinding, name)

    def test_wrong_lists_of_names(self):
        values = no_lists() + [value for value in all_kinds() if type(value) is list and value != []]
        values += [[value] for value in no_names_of("st")] + [["s", "t", value] for value in no_names_of("st")]
        self.fails_for_all(BadNames, values + [["s"] * 1000 + ["a"]], lambda names: DEAL.left(["a"], names))

    def test_wrong_hands(self):
        for name in no_names_of("abc"):
            with self.subTest(kind=type(name).__name__):
                self.fails(BadName, name, DEAL.leave, name)
                self.fails(BadName, name, DEAL.hand_over, name, "a")
                self.fails(BadName, name, DEAL.hand_over, "a", name)
                self.fails(BadName, name, DEAL.hand_over, name, None)
                self.fails(BadName, name, Deal(BOOK, {"x": ()}, SECRETS).leave, name)

    def test_the_only_hand(self):
        deal = Deal(BOOK, {"a": (0,)}, SECRETS)
        name = "a"
        self.fails(BadName, name, deal.leave, name)
        self.fails(BadName, name, deal.hand_over, name, name)
        self.fails(BadName, name, DEAL.leave("b").leave("c").leave, name)

    def test_over_to_the_same_hand(self):
        name = "a"
        self.fails(BadName, name, DEAL.hand_over, name, name)


class TestSay(ErrorCase):

    def test_wrong_lots(self):
        self.fails_for_all(BadLot, no_lots(4), DEAL.say)

    def test_forty_told_sums_and_one_more(self):
        deal = DEAL
        for k in range(40):
            self.assertEqual(len(deal.told), k)
            deal = deal.say((k % 4,))
        for lot in [(), (0,), (0, 1, 2, 3)]:
            self.fails(TooMany, 40, deal.say, lot)
        # BadLot goes ahead; and what was told stays told in other deals.
        self.fails_for_all(BadLot, no_lots(4), deal.say)
        self.fails(TooMany, 40, deal.leave("b").say, ())
        self.fails(TooMany, 40, deal.hand_over("a", "b").say, ())
        self.assertEqual(len(deal.told), 40)

    def test_lots_of_all_kinds(self):
        for value in all_kinds():
            if plainly_lot(value, 4):
                self.assertEqual(DEAL.say(value).told, (value,))


if __name__ == "__main__":
    unittest.main()
