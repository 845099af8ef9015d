"""Points 38 to 40: the examples, ordinary inputs, edges, wrong inputs, and what stays as it was."""

import unittest

from blindtwins.calls import Call, chain_fault, fewest, longest_chain, serve_fault
from blindtwins.errors import BadHearers, BadLots, BadSize, TooMany

from tests.values import ErrorCase, all_kinds, no_integers, no_lists, no_lots, plainly_lot, plainly_number

TWELVE = tuple(range(12))
NOBODY = ((), (), ())


def swap():
    return Call(2, (((0,), (1,), ()), ((1,), (0,), ())))


def ring(blocks):
    """Each hearer has the block with its number and wants the next one."""
    return Call(blocks, tuple(((k,), ((k + 1) % blocks,), ()) for k in range(blocks)))


def no_hearers(blocks):
    """Values of all kinds that are no hearers."""
    near = [((), ()), ((), (), (), ()), [(), (), ()], ((0,), (0,), ()), ((0,), (), (0,)), ((), (0,), (0,))]
    near += [((0,), (1,), (0, 1))]
    for lot in no_lots(blocks):
        near += [(lot, (), ()), ((), lot, ()), ((), (), lot)]
    return near + [value for value in all_kinds() if value != NOBODY]


def no_links(hearers, blocks):
    """Values of all kinds that are no pairs of a hearer and a block."""
    near = [(0,), (0, 0, 0), [0, 0], ((0, 0),)]
    near += [(hearer, 0) for hearer in no_integers(0, hearers - 1)]
    near += [(0, block) for block in no_integers(0, blocks - 1)]
    kinds = [value for value in all_kinds() if not (isinstance(value, tuple) and len(value) == 2)]
    return near + kinds + [(0, True), (False, 0), (0, (0,)), ("0", 0)]


class TestExamples(ErrorCase):

    def test_of_the_document(self):
        call = Call(2, (((0,), (1,), ()), ((1,), (0,), ())))
        self.assertIsNone(serve_fault(call, [(0, 1)]))
        self.assertEqual(serve_fault(call, [(0,)]), ("wants", 0, 1, (1,)))
        self.assertEqual(fewest(call), (1, [(0, 1)]))
        self.assertEqual(len(longest_chain(call)), 1)

    def test_by_name(self):
        call = Call(hearers=(((0,), (1,), ()), ((1,), (0,), ())), blocks=2)
        self.assertIsNone(serve_fault(sums=[(0, 1)], call=call))
        self.assertEqual(fewest(call=call), (1, [(0, 1)]))
        self.assertEqual(chain_fault(chain=[(0, 0)], call=call), ("wants", 0))
        self.assertEqual(len(longest_chain(call=call)), 1)


class TestCall(ErrorCase):

    def test_attributes(self):
        hearers = (((0,), (1,), ()), ((), (0,), (1,)))
        call = Call(2, hearers)
        self.assertEqual((call.blocks, call.hearers), (2, hearers))

    def test_blocks(self):
        for blocks in (1, 12):
            call = Call(blocks, (((), TWELVE[:blocks], ()),))
            self.assertEqual(call.blocks, blocks)
            self.assertIsNone(serve_fault(call, [(block,) for block in range(blocks)]))
        for hearers in ((NOBODY,), None):
            self.fails_for_all(BadSize, no_integers(1, 12), lambda blocks: Call(blocks, hearers))

    def test_numbers_of_hearers(self):
        for number in (1, 12):
            self.assertEqual(len(Call(1, (NOBODY,) * number).hearers), number)
        for number in (0, 13):
            self.fails(BadHearers, -1, Call, 1, (NOBODY,) * number)
        self.fails(BadHearers, -1, Call, 1, (None,) * 13)
        values = [value for value in all_kinds() if not isinstance(value, tuple)]
        for value in values + [[NOBODY]]:
            self.fails(BadHearers, -1, Call, 2, value)

    def test_wrong_hearers(self):
        for value in no_hearers(2):
            self.fails(BadHearers, 0, Call, 2, (value, None))
            self.fails(BadHearers, 1, Call, 2, (((0,), (1,), ()), value))
        self.fails(BadHearers, 11, Call, 1, (NOBODY,) * 11 + (((1,), (), ()),))


class TestServe(ErrorCase):

    def test_twins(self):
        call = Call(3, (((0,), (1, 2), ()),))
        self.assertEqual(serve_fault(call, [(1,)]), ("wants", 0, 2, (2,)))
        self.assertEqual(serve_fault(call, [(1, 2)]), ("wants", 0, 1, (1, 2)))
        self.assertIsNone(serve_fault(call, [(0, 1), (0, 1, 2)]))

    def test_hidden(self):
        call = Call(4, (((0,), (1,), (2, 3)),))
        self.assertIsNone(serve_fault(call, [(0, 1)]))
        self.assertIsNone(serve_fault(Call(4, (((0,), (), (2, 3)),)), [(1, 2), (1,)][:1]))
        self.assertEqual(serve_fault(call, [(1,), (0, 3)]), ("hidden", 0, (3,)))
        self.assertEqual(serve_fault(call, [(1,), (2, 3)]), ("hidden", 0, (2, 3)))
        self.assertEqual(serve_fault(call, [(1,), (2, 3), (3,)]), ("hidden", 0, (2,)))
        # What it wants goes ahead.
        self.assertEqual(serve_fault(call, [(2,)])[:3], ("wants", 0, 1))

    def test_the_first_hearer_with_a_fault(self):
        call = Call(3, (((0,), (1,), ()), ((1,), (), (2,)), ((), (0,), ())))
        self.assertEqual(serve_fault(call, [(1, 2), (1,)]), ("hidden", 1, (2,)))
        self.assertEqual(serve_fault(call, [(1,)]), ("wants", 2, 0, (0,)))

    def test_numbers_of_sums(self):
        call = Call(2, (((), (), ()),))
        self.assertIsNone(serve_fault(call, []))
        self.assertIsNone(serve_fault(call, [(0,)] * 24))
        self.assertEqual(serve_fault(ring(3), []), ("wants", 0, 1, (1,)))
        for value in no_lists() + [[(0,)] * 25, [None] * 25]:
            self.fails(BadLots, -1, serve_fault, call, value)

    def test_wrong_sums(self):
        for lot in no_lots(2):
            self.assertFalse(plainly_lot(lot, 2))
            self.fails(BadLots, 0, serve_fault, swap(), [lot, None])
            self.fails(BadLots, 1, serve_fault, swap(), [(0, 1), lot])


class TestFewest(ErrorCase):

    def test_none_wanted(self):
        self.assertEqual(fewest(Call(1, (NOBODY,))), (0, []))
        self.assertEqual(fewest(Call(5, ((TWELVE[:5], (), ()),))), (0, []))

    def test_none_at_all(self):
        # The second hearer has what makes the first one's block known.
        self.assertIsNone(fewest(Call(2, (((1,), (0,), ()), ((1,), (), (0,))))))

    def test_five_blocks_and_six(self):
        self.assertEqual(fewest(ring(5))[0], 4)
        call = Call(5, tuple((TWELVE[:k] + TWELVE[k + 1:5], (k,), ()) for k in range(5)))
        self.assertEqual(fewest(call), (1, [(0, 1, 2, 3, 4)]))
        for blocks in (6, 12):
            self.fails(TooMany, 5, fewest, ring(blocks))

    def test_more_sums_than_one_that_hide(self):
        # The block that is hidden from the first hearer comes to the second one behind what it has.
        call = Call(3, (((), (0,), (1,)), ((2,), (1,), ())))
        number, sums = fewest(call)
        self.assertEqual((number, len(sums), serve_fault(call, sums)), (2, 2, None))
        self.assertIsNone(fewest(Call(2, (((), (0,), (1,)), ((), (1,), ())))))


class TestChains(ErrorCase):

    def test_faults(self):
        call = Call(3, (((), (0, 1), ()), ((0,), (1, 2), ()), ((1, 2), (0,), ())))
        self.assertIsNone(chain_fault(call, [(0, 0), (0, 1), (1, 2)]))
        self.assertEqual(chain_fault(call, [(0, 0), (0, 2), (3, 0)]), ("form",))
        self.assertEqual(chain_fault(call, [(0, 0), (0, 0), (0, 2)]), ("wants", 2))
        self.assertEqual(chain_fault(call, [(1, 2), (0, 0), (2, 0)]), ("twice", 2))
        self.assertEqual(chain_fault(call, [(1, 2), (1, 1), (0, 0)]), ("has", 0, 2))
        self.assertEqual(chain_fault(call, [(2, 0), (1, 2), (0, 1)]), ("has", 0, 1))

    def test_the_empty_chain(self):
        self.assertIsNone(chain_fault(ring(3), []))
        self.assertEqual(longest_chain(Call(1, (NOBODY,))), [])

    def test_longest(self):
        for blocks in (1, 2, 5, 12):
            wanting = Call(blocks, (((), TWELVE[:blocks], ()),))
            self.assertEqual(len(longest_chain(wanting)), blocks)
            self.assertIsNone(chain_fault(wanting, longest_chain(wanting)))
        self.assertEqual(len(longest_chain(ring(12))), 11)

    def test_form(self):
        for call in (swap(), Call(3, (((), (0,), ()),) * 2)):
            for value in no_links(2, call.blocks):
                self.assertEqual(chain_fault(call, [value]), ("form",))
                self.assertEqual(chain_fault(call, [(0, 0), (0, 0), value]), ("form",))
            for value in no_lists() + [((0, 1),)]:
                self.assertEqual(chain_fault(call, value), ("form",))

    def test_long_lists(self):
        self.assertEqual(chain_fault(swap(), [(0, 1)] * 1000), ("twice", 1))
        self.assertEqual(chain_fault(swap(), [(0, 1)] * 1000 + [(1, 1)]), ("wants", 1000))


class TestNothingChanges(ErrorCase):

    def test_lists_that_are_passed(self):
        sums, chain = [(0, 1), (1,)], [(0, 1), (1, 0)]
        serve_fault(swap(), sums)
        chain_fault(swap(), chain)
        self.assertEqual((sums, chain), ([(0, 1), (1,)], [(0, 1), (1, 0)]))

    def test_lists_that_are_returned(self):
        call = swap()
        fewest(call)[1].clear()
        longest_chain(call).clear()
        self.assertEqual((len(fewest(call)[1]), len(longest_chain(call))), (1, 1))

    def test_calls_never_change(self):
        call = swap()
        serve_fault(call, [(0,)])
        fewest(call)
        longest_chain(call)
        chain_fault(call, [(0, 1)])
        self.assertEqual((call.blocks, call.hearers), (2, (((0,), (1,), ()), ((1,), (0,), ()))))
        self.assertTrue(plainly_number(call.blocks))


if __name__ == "__main__":
    unittest.main()
