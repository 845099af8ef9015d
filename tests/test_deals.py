"""Points 24 to 28: examples, edges, and that nothing that is passed or returned is shared."""

import unittest

from blindtwins.books import Book
from blindtwins.deals import Deal

from tests.values import ErrorCase, all_kinds, no_lots

BOOK = Book(3, [(0, 1), (1, 2)])
HANDS = {"ann": (0,), "bob": (1,)}
DEAL = Deal(BOOK, HANDS, {"pin": (2,)})
# Four places with an even number of ones, each in a hand, and hands with places in common.
EVEN = Book(4, [(0, 1), (1, 2), (2, 3)])
FOUR = Deal(EVEN, {"d": (0, 1), "a": (0,), "c": (), "b": (1, 2)}, {"s": (3,), "t": (0, 1), "u": ()})
NAMES = list("jihgfedcba")
FULL = Book(10, [(place,) for place in range(10)])
TEN = Deal(FULL, {name: (k,) for k, name in enumerate(NAMES)}, {name: (k,) for k, name in enumerate(NAMES)})


def told_often(deal, number):
    for k in range(number):
        deal = deal.say((k % deal.book.size,))
    return deal


class TestExamples(ErrorCase):

    def test_of_the_document(self):
        self.assertEqual(DEAL.knows(["ann", "bob"], "pin"), ("sum", (0, 1), ()))
        self.assertEqual(DEAL.knows(["ann"], "pin"), ("twin", (1, 2)))
        self.assertEqual(DEAL.least_groups("pin"), [("ann", "bob")])
        self.assertEqual(DEAL.say((0,)).left(["bob"], ["pin"]), 0)

    def test_by_name(self):
        self.assertEqual(Deal(secrets={"pin": (2,)}, hands=HANDS, book=BOOK), DEAL)
        self.assertEqual(DEAL.knows(secret="pin", group=["ann"]), ("twin", (1, 2)))
        answer = ("twin", (1, 2))
        self.assertIsNone(DEAL.knows_fault(answer=answer, secret="pin", group=["ann"]))
        self.assertEqual(DEAL.left(names=["pin"], group=["ann"]), 1)
        self.assertEqual(DEAL.say(lot=(0,)).told, ((0,),))
        self.assertEqual(DEAL.leave(name="ann").hands, {"bob": (1,)})
        self.assertEqual(DEAL.hand_over(other="bob", name="ann").hands, {"bob": (0, 1)})
        self.assertEqual(DEAL.least_groups(secret="pin"), [("ann", "bob")])
        self.assertEqual(DEAL.least_blinding(secret="pin"), [("ann",), ("bob",)])
        self.assertEqual(DEAL.agreed(listeners=[], hands=["ann"]), 1)
        self.assertEqual(DEAL.agreed_lots(listeners=["ann"], hands=["ann"]), [])
        self.assertIsNone(DEAL.agreed_fault(lots=[(0,)], listeners=["bob"], hands=["ann"]))


class TestDeal(ErrorCase):

    def test_attributes(self):
        self.assertIs(DEAL.book, BOOK)
        self.assertEqual((DEAL.hands, DEAL.secrets, DEAL.told), (HANDS, {"pin": (2,)}, ()))
        self.assertEqual(len(TEN.hands), 10)
        self.assertEqual(len(TEN.secrets), 10)

    def test_equal(self):
        self.assertTrue(DEAL == Deal(Book(3, [(0, 2), (1, 2)]), {"bob": (1,), "ann": (0,)}, {"pin": (2,)}))
        others = [Deal(Book(3, []), HANDS, {"pin": (2,)}), Deal(BOOK, {"ann": (0,)}, {"pin": (2,)})]
        others += [Deal(BOOK, {"ann": (0,), "bob": ()}, {"pin": (2,)}), Deal(BOOK, HANDS, {"pin": (1,)})]
        others += [Deal(BOOK, HANDS, {"pan": (2,)}), Deal(BOOK, HANDS, {"pin": (2,), "pan": ()}), DEAL.say(())]
        for other in others + all_kinds() + [BOOK, HANDS]:
            self.assertFalse(DEAL == other)
            self.assertFalse(other == DEAL)
        self.assertTrue(DEAL.say((0,)).say((1,)) == DEAL.say((0,)).say((1,)))
        self.assertFalse(DEAL.say((0,)).say((1,)) == DEAL.say((1,)).say((0,)))

    def test_deals_never_change(self):
        before = Deal(BOOK, HANDS, {"pin": (2,)})
        DEAL.say((0,))
        DEAL.leave("ann")
        DEAL.hand_over("ann", "bob")
        self.assertEqual(DEAL, before)
        self.assertEqual((DEAL.hands, DEAL.secrets, DEAL.told), (HANDS, {"pin": (2,)}, ()))


class TestCopies(unittest.TestCase):

    def test_dicts_that_are_passed(self):
        hands, secrets = {"bob": (1,), "ann": (0,)}, {"pin": (2,), "pan": (0, 2)}
        deal = Deal(BOOK, hands, secrets)
        self.assertEqual(list(hands.items()), [("bob", (1,)), ("ann", (0,))])
        hands["cid"] = (2,)
        secrets.clear()
        self.assertEqual(deal.hands, {"ann": (0,), "bob": (1,)})
        self.assertEqual(deal.secrets, {"pin": (2,), "pan": (0, 2)})
        self.assertEqual(deal.knows(["ann"], "pin"), ("twin", (1, 2)))

    def test_dicts_in_attributes(self):
        deal = Deal(BOOK, HANDS, {"pin": (2,)})
        later = deal.say((0, 1))
        less = later.leave("bob")
        for other in (deal, later, less):
            other.hands["ann"] = (2,)
            other.hands["zoe"] = (0, 1, 2)
            del other.secrets["pin"]
        self.assertEqual(HANDS, {"ann": (0,), "bob": (1,)})
        self.assertEqual(deal, DEAL)
        self.assertEqual(deal.knows(["ann"], "pin"), ("twin", (1, 2)))
        self.assertEqual(deal.least_groups("pin"), [("ann", "bob")])
        self.assertEqual(later, DEAL.say((0, 1)))
        self.assertEqual(less, DEAL.say((0, 1)).leave("bob"))
        self.assertEqual(deal.leave("bob").hands, {"ann": (0,)})
        self.assertEqual(deal.say(()).secrets, {"pin": (2,)})
        self.assertEqual(deal.hand_over("ann", "bob").hands, {"bob": (0, 1)})

    def test_lists_that_are_passed(self):
        group, names, listeners, lots = ["bob", "ann"], ["pin", "pin"], ["bob"], [(0,), (1,)]
        DEAL.knows(group, "pin")
        DEAL.left(group, names)
        DEAL.agreed(group, listeners)
        DEAL.agreed_lots(group, listeners)
        DEAL.agreed_fault(group, listeners, lots)
        self.assertEqual((group, names), (["bob", "ann"], ["pin", "pin"]))
        self.assertEqual((listeners, lots), (["bob"], [(0,), (1,)]))

    def test_lists_that_are_returned(self):
        for call in (lambda: DEAL.least_groups("pin"), lambda: DEAL.least_blinding("pin"),
                     lambda: DEAL.agreed_lots(["ann"], [])):
            before = call()
            call().clear()
            self.assertEqual((type(before), call()), (list, before))


class TestKnows(ErrorCase):

    def test_the_empty_group(self):
        self.assertEqual(FOUR.knows([], "u"), ("sum", (), ()))
        self.assertEqual(FOUR.knows([], "s")[0], "twin")
        self.assertEqual(FOUR.say((0, 1, 2)).knows([], "s"), ("sum", (), (0,)))
        self.assertEqual(FOUR.left([], ["s", "t", "u"]), 2)

    def test_told_lots(self):
        deal = FOUR.say((1, 2)).say((2, 3))
        self.assertEqual(deal.knows([], "t"), ("sum", (), (1,)))
        self.assertEqual(deal.knows(["a"], "s"), ("sum", (0,), (0,)))
        self.assertEqual(deal.knows(["c"], "s"), ("twin", (0, 1, 2, 3)))
        self.assertEqual(deal.left(["a"], ["s", "t"]), 0)

    def test_left(self):
        self.assertEqual(FOUR.left(["a"], ["s", "t"]), 2)
        self.assertEqual(FOUR.left(["a"], []), 0)
        self.assertEqual(FOUR.left(["a"], ["u", "u"]), 0)
        self.assertEqual(FOUR.left(["a"], ["s", "s", "s"]), 1)
        self.assertEqual(FOUR.left(["d"], ["s", "t"]), 1)
        self.assertEqual(TEN.left([], NAMES), 10)
        self.assertEqual(TEN.left(NAMES[:3], NAMES * 10), 7)
        self.assertEqual(TEN.left(NAMES, NAMES * 1000), 0)

    def test_forty_told_sums(self):
        deal = told_often(TEN, 40)
        self.assertEqual(deal.told, tuple((k % 10,) for k in range(40)))
        for name in NAMES:
            answer = deal.knows([], name)
            self.assertEqual((answer[:2], deal.knows_fault([], name, answer)), (("sum", ()), None))
        self.assertIsNone(deal.knows_fault([], "j", ("sum", (), (30,))))
        self.assertIsNone(deal.knows_fault([], "j", ("sum", (), (0, 20, 30))))
        self.assertEqual(deal.knows_fault([], "j", ("sum", (), (39,))), ("check",))
        self.assertEqual(deal.knows_fault([], "j", ("sum", (), (40,))), ("form",))


class TestKnowsFault(ErrorCase):

    def test_faults_of_sums(self):
        deal = FOUR.say((0, 2)).say((1,))
        self.assertIsNone(deal.knows_fault(["b", "a"], "s", ("sum", (0, 1, 2), ())))
        self.assertIsNone(deal.knows_fault(["a"], "t", ("sum", (0,), (1,))))
        self.assertIsNone(deal.knows_fault([], "s", ("sum", (), (0, 1))))
        self.assertEqual(deal.knows_fault(["a"], "s", ("sum", (0, 1, 2), ())), ("part", 1))
        self.assertEqual(deal.knows_fault([], "s", ("sum", (0, 3), (0, 1))), ("part", 0))
        self.assertEqual(deal.knows_fault(["b", "a"], "s", ("sum", (0, 1), ())), ("check",))
        self.assertEqual(deal.knows_fault([], "s", ("sum", (), (0,))), ("check",))
        # Outside of the shares goes ahead of the check.
        self.assertEqual(deal.knows_fault(["a"], "s", ("sum", (3,), ())), ("part", 3))

    def test_faults_of_twins(self):
        deal = FOUR.say((0, 1)).say((1, 2))
        self.assertIsNone(deal.knows_fault([], "s", ("twin", (0, 1, 2, 3))))
        self.assertEqual(deal.knows_fault([], "s", ("twin", (3,))), ("word",))
        self.assertEqual(deal.knows_fault(["b"], "s", ("twin", (0, 1, 2))), ("word",))
        self.assertEqual(deal.knows_fault(["b", "a"], "s", ("twin", (0, 1, 2, 3))), ("seen", 0))
        self.assertEqual(deal.knows_fault(["b"], "s", ("twin", (0, 1, 2, 3))), ("seen", 1))
        self.assertEqual(deal.knows_fault(["a"], "s", ("twin", (1, 2))), ("told", 0))
        self.assertEqual(deal.knows_fault([], "s", ("twin", (0, 1))), ("told", 1))
        self.assertEqual(deal.knows_fault([], "s", ("twin", ())), ("even",))
        self.assertEqual(deal.knows_fault([], "t", ("twin", (0, 1, 2, 3))), ("even",))
        self.assertEqual(deal.knows_fault(["c"], "u", ("twin", (0, 1, 2, 3))), ("even",))

    def test_answers_of_no_form(self):
        deal = FOUR.say((0,))
        near = [("sum", (0,)), ("twin", (0, 1), ()), ["sum", (0,), ()], ("sum", (0,), (), ()), ("sum", (0,), (1,))]
        near += [("sum", (0,), (True,)), ("sum", (False,), ()), ("sum", [0], ()), ("sum", (0,), []), ("Sum", (), ())]
        near += [("sum", (4,), ()), ("twin", (4,)), ("twin", None), (None, (), ()), (True, ()), ("seen", ())]
        near += [("sums", (0,), ()), ("sum", (1, 0), ()), ("sum", (0,), None), ((), ()), ((), (), ()), (DEAL, ())]
        fitting = [("twin", ()), ("sum", (0,), ())]
        for answer in near + [value for value in all_kinds() if value not in fitting]:
            with self.subTest(kind=type(answer).__name__):
                self.assertEqual(deal.knows_fault(["a"], "s", answer), ("form",))
        for lot in no_lots(4):
            self.assertEqual(deal.knows_fault(["a"], "s", ("sum", lot, ())), ("form",))
            self.assertEqual(deal.knows_fault(["a"], "s", ("twin", lot)), ("form",))
        for lot in no_lots(1):
            self.assertEqual(deal.knows_fault(["a"], "s", ("sum", (0,), lot)), ("form",))
        for lot in no_lots(0):
            self.assertEqual(FOUR.knows_fault(["a"], "s", ("sum", (0,), lot)), ("form",))


class TestSayLeaveHandOver(ErrorCase):

    def test_say(self):
        deal = DEAL.say((0, 1)).say(()).say((0, 1))
        self.assertEqual(deal.told, ((0, 1), (), (0, 1)))
        self.assertEqual((deal.book, deal.hands, deal.secrets), (BOOK, HANDS, {"pin": (2,)}))

    def test_leave(self):
        deal = DEAL.say((0, 1)).leave("ann")
        self.assertEqual((deal.hands, deal.told, deal.secrets), ({"bob": (1,)}, ((0, 1),), {"pin": (2,)}))
        self.assertEqual(deal.knows(["bob"], "pin"), ("sum", (), (0,)))
        less = TEN
        for name in NAMES[1:]:
            less = less.leave(name)
        self.assertEqual(less.hands, {"j": (0,)})

    def test_hand_over(self):
        deal = FOUR.say((0,)).hand_over("b", "d")
        self.assertEqual(deal.hands, {"d": (0, 1, 2), "a": (0,), "c": ()})
        self.assertEqual((deal.told, deal.secrets), (((0,),), FOUR.secrets))
        self.assertEqual(FOUR.hand_over("c", "a").hands, {"d": (0, 1), "a": (0,), "b": (1, 2)})
        self.assertEqual(FOUR.hand_over("a", "c").hands, {"d": (0, 1), "c": (0,), "b": (1, 2)})
        self.assertEqual(deal.knows(["d"], "s"), ("sum", (0, 1, 2), ()))


class TestLeastGroups(ErrorCase):

    def test_names_ascend(self):
        self.assertEqual(FOUR.least_groups("s"), [("a", "b"), ("b", "d")])
        self.assertEqual(FOUR.least_blinding("s"), [("a", "d"), ("b",)])
        self.assertEqual(FOUR.least_groups("t"), [("a", "b"), ("d",)])
        self.assertEqual(FOUR.least_blinding("t"), [("a", "d"), ("b", "d")])
        self.assertEqual(TEN.least_groups("a"), [("a",)])

    def test_told_lots_alone(self):
        self.assertEqual(FOUR.least_groups("u"), [()])
        self.assertEqual(FOUR.least_blinding("u"), [])
        deal = FOUR.say((0, 1, 2))
        self.assertEqual((deal.least_groups("s"), deal.least_blinding("s")), ([()], []))
        self.assertEqual(deal.least_groups("t"), [("b",), ("d",)])
        self.assertEqual(FOUR.say((1,)).least_groups("t"), [("a",), ("d",)])
        self.assertEqual(FOUR.say((1,)).least_blinding("t"), [("a", "d")])

    def test_nobody_knows(self):
        deal = Deal(EVEN, {"a": (0,), "b": (1,)}, {"s": (3,)})
        self.assertEqual((deal.least_groups("s"), deal.least_blinding("s")), ([], [()]))

    def test_one_hand_and_ten(self):
        deal = Deal(EVEN, {"a": (0, 1, 2)}, {"s": (3,)})
        self.assertEqual((deal.least_groups("s"), deal.least_blinding("s")), ([("a",)], [("a",)]))
        deal = Deal(FULL, TEN.hands, {"all": tuple(range(10)), "most": tuple(range(9))})
        self.assertEqual(deal.least_groups("all"), [tuple("abcdefghij")])
        self.assertEqual(deal.least_groups("most"), [tuple("bcdefghij")])
        self.assertEqual(deal.least_blinding("all"), [(name,) for name in "abcdefghij"])


class TestAgreed(ErrorCase):

    def test_what_hands_have_in_common(self):
        self.assertEqual(FOUR.agreed(["a", "d"], ["c"]), 1)
        self.assertEqual(FOUR.agreed(["a", "d"], ["a"]), 0)
        self.assertEqual(FOUR.agreed(["a", "b"], []), 0)
        self.assertEqual(FOUR.agreed(["b", "d"], ["a"]), 1)
        self.assertEqual(FOUR.agreed(["d"], []), 2)
        self.assertEqual(FOUR.agreed(["c"], []), 0)
        self.assertEqual(FOUR.agreed(["d"], ["b", "a"]), 0)
        self.assertEqual(TEN.agreed(NAMES, []), 0)
        self.assertEqual(TEN.agreed(["a"], NAMES[:9]), 1)

    def test_told_lots_count_for_all(self):
        # Behind the told sum a and b know the same bit, and nobody else does.
        deal = FOUR.say((0, 1))
        self.assertEqual(deal.agreed(["a", "b"], ["c"]), 1)
        self.assertEqual(deal.agreed(["a", "b"], ["d"]), 0)
        self.assertEqual(deal.agreed(["a", "b"], []), 1)
        self.assertIsNone(deal.agreed_fault(["a", "b"], [], [(0,)]))
        self.assertIsNone(deal.agreed_fault(["a", "b"], [], [(1,)]))
        self.assertEqual(deal.agreed_fault(["a", "b"], [], [(0, 1)]), ("heard", (0,)))

    def test_lots_are_as_many_as_agreed(self):
        for hands, listeners in ((["d"], []), (["a", "d"], ["c"]), (["b", "d"], ["a"]), (["a", "b"], ["d"])):
            lots = FOUR.agreed_lots(hands, listeners)
            self.assertEqual(len(lots), FOUR.agreed(hands, listeners))
            self.assertIsNone(FOUR.agreed_fault(hands, listeners, lots))

    def test_unknown(self):
        lots = [(0,), (1, 2), (0, 1)]
        self.assertEqual(FOUR.agreed_fault(["a", "b", "d"], [], lots), ("unknown", 0, "b"))
        self.assertEqual(FOUR.agreed_fault(["d", "b", "a"], [], lots), ("unknown", 0, "b"))
        self.assertEqual(FOUR.agreed_fault(["d", "a"], [], lots), ("unknown", 1, "d"))
        self.assertEqual(FOUR.agreed_fault(["a", "d"], [], lots), ("unknown", 1, "a"))
        self.assertEqual(FOUR.agreed_fault(["c", "a"], [], [(3,)]), ("unknown", 0, "c"))
        # Unknown goes ahead of heard, also where a lot ahead of it is heard.
        self.assertEqual(FOUR.agreed_fault(["a"], ["a"], [(0,), (1,)]), ("unknown", 1, "a"))

    def test_heard(self):
        self.assertIsNone(FOUR.agreed_fault(["d"], [], []))
        self.assertIsNone(FOUR.agreed_fault(["d"], ["c"], [(0,), (1,)]))
        self.assertEqual(FOUR.agreed_fault(["d"], ["a"], [(0,), (1,)]), ("heard", (0,)))
        self.assertEqual(FOUR.agreed_fault(["d"], ["b"], [(0,), (0, 1)]), ("heard", (0, 1)))
        self.assertEqual(FOUR.agreed_fault(["d"], [], [(0,), (1,), (0, 1)]), ("heard", (0, 1, 2)))
        self.assertEqual(FOUR.agreed_fault(["d"], [], [(0,), (1,), (0,), (0,)]), ("heard", (0, 2)))
        self.assertEqual(FOUR.agreed_fault(["d"], [], [(0,), (1,), (1,), (0,)]), ("heard", (0, 1, 2, 3)))
        self.assertEqual(FOUR.agreed_fault(["d"], [], [()]), ("heard", (0,)))
        # (2, 3) tells the same as (0, 1): their sum is a check, known by everybody.
        self.assertEqual(FOUR.agreed_fault(["d"], [], [(0, 1), (0,), (2, 3)]), ("heard", (0, 2)))

    def test_sixty_lots_and_sixty_one(self):
        self.assertEqual(FOUR.agreed_fault(["d"], [], [(0,)] * 60), ("heard", (0, 1)))
        self.assertEqual(FOUR.agreed_fault(["d"], [], [(0,)] * 59 + [(2,)]), ("unknown", 59, "d"))
        self.assertEqual(FOUR.agreed_fault(["d"], [], [(0,)] * 61), ("form",))

    def test_lots_of_no_form(self):
        for lots in all_kinds() + [((0,),), {0: (0,)}, "", None]:
            if lots not in ([], [(0,)]):
                with self.subTest(kind=type(lots).__name__):
                    self.assertEqual(FOUR.agreed_fault(["a"], [], lots), ("form",))
        for lot in no_lots(4):
            self.assertEqual(FOUR.agreed_fault(["a"], [], [(3,), lot]), ("form",))


if __name__ == "__main__":
    unittest.main()
