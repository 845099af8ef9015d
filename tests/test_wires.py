"""Points 31 to 34: the examples, ordinary inputs, edges, and what stays as it was."""

import unittest

from blindtwins.books import Book
from blindtwins.errors import BadBits, BadLooks
from blindtwins.kept import Kept
from blindtwins.looks import times
from blindtwins.wires import State, run, zeros

from tests.values import ErrorCase, all_kinds

TEN = tuple(range(10))


def bell():
    return State(2, [(0, (0, 1), ()), (0, (), (0, 1))])


class TestExamples(ErrorCase):

    def test_of_the_document(self):
        state = zeros(2).swap_sorts(0).tied(0, 1)
        self.assertEqual(state.looks(), [(0, (0, 1), ()), (0, (), (0, 1))])
        self.assertEqual(state.look((0, (), (0, 1))), ("sure", 0))
        script = [("look", (0, (), (0,))), ("look", (0, (), (1,)))]
        self.assertEqual(run(state, script, [1])[1], (1, 1))

    def test_by_name(self):
        state = State(looks=[(1, (), (0,)), (0, (), (1,))], wires=2)
        self.assertEqual(state.looks(), [(1, (), (0,)), (0, (), (1,))])
        self.assertEqual(zeros(wires=2).turn_by(look=(0, (0,), ())), state)
        self.assertEqual(state.swap_sorts(wire=1).quarter(wire=1).tied(second=0, first=1).look(look=(0, (), (0,)))[0],
                         "free")
        behind, told = run(bits=[], script=[("look", (0, (), (0,)))], state=state)
        self.assertEqual((behind, told), (state, (1,)))


class TestStates(ErrorCase):

    def test_reduced_looks(self):
        state = State(2, [(0, (0, 1), (0, 1)), (0, (0, 1), ())])
        # The product of both is the look of both turns, negative.
        self.assertEqual(state.looks(), [(0, (0, 1), ()), (1, (), (0, 1))])
        state = State(3, [(1, (), (0, 1, 2)), (0, (), (1, 2)), (1, (), (2,))])
        self.assertEqual(state.looks(), [(1, (), (0,)), (1, (), (1,)), (1, (), (2,))])

    def test_one_wire_and_ten(self):
        self.assertEqual(State(1, [(1, (0,), (0,))]).looks(), [(1, (0,), (0,))])
        self.assertEqual(zeros(1).looks(), [(0, (), (0,))])
        self.assertEqual(zeros(10).looks(), [(0, (), (wire,)) for wire in TEN])
        self.assertEqual(zeros(10).wires, 10)
        looks = [(0, (wire, wire + 1), ()) for wire in range(9)] + [(1, (), TEN)]
        self.assertEqual(State(10, looks).looks(), [(0, (wire, 9), ()) for wire in range(9)] + [(1, (), TEN)])

    def test_number_of_looks(self):
        looks = [(0, (), (0,)), (0, (), (1,))]
        self.assertEqual(State(2, looks), zeros(2))
        for some in (looks[:1], looks + [(0, (), (0, 1))], []):
            self.fails(BadLooks, -1, State, 2, some)

    def test_looks_that_do_not_go_together(self):
        self.fails(BadLooks, 1, State, 2, [(0, (0,), ()), (0, (), (0,))])
        self.fails(BadLooks, 2, State, 3, [(0, (0,), ()), (0, (1,), ()), (0, (2,), (0, 2))])

    def test_products_of_earlier_looks(self):
        self.fails(BadLooks, 0, State, 1, [(0, (), ())])
        self.fails(BadLooks, 0, State, 1, [(1, (), ())])
        self.fails(BadLooks, 1, State, 2, [(0, (0,), ()), (1, (0,), ())])
        one, other = (0, (0, 1), ()), (0, (), (0, 1))
        self.fails(BadLooks, 2, State, 3, [one, other, times(one, other)])
        self.fails(BadLooks, 2, State, 3, [one, other, (0,) + times(one, other)[1:]])
        self.fails(BadLooks, 1, State, 3, [one, one, None])

    def test_equal(self):
        self.assertEqual(bell(), State(2, [(0, (), (0, 1)), (1, (0, 1), (0, 1))]))
        self.assertFalse(bell() == State(2, [(0, (), (0, 1)), (0, (0, 1), (0, 1))]))
        self.assertFalse(zeros(1) == zeros(2))
        self.assertTrue(bell() != zeros(2))

    def test_equal_to_nothing_else(self):
        others = [Kept(1, [((), (0,))]), Book(2, [(1,)]), [(0, (), (0,))]]
        for value in all_kinds() + others:
            if not isinstance(value, State):
                self.assertFalse(zeros(1) == value)
                self.assertFalse(value == zeros(1))


class TestDeeds(ErrorCase):

    def test_one_wire(self):
        flip, turn, both = ((sign, flips, turns) for sign, flips, turns in
                            ((0, (0,), ()), (0, (), (0,)), (0, (0,), (0,))))
        self.assertEqual(State(1, [flip]).swap_sorts(0).looks(), [turn])
        self.assertEqual(State(1, [both]).swap_sorts(0).looks(), [(1,) + both[1:]])
        self.assertEqual(State(1, [flip]).quarter(0).looks(), [both])
        self.assertEqual(State(1, [both]).quarter(0).looks(), [(1,) + flip[1:]])
        self.assertEqual(State(1, [turn]).quarter(0).looks(), [turn])
        self.assertEqual(State(1, [both]).turn_by(flip).looks(), [(1,) + both[1:]])
        self.assertEqual(State(1, [both]).turn_by(both).looks(), [both])

    def test_the_sign_of_turn_by_means_nothing(self):
        for sign in (0, 1):
            self.assertEqual(bell().turn_by((sign, (0,), ())).looks(), [(0, (0, 1), ()), (1, (), (0, 1))])

    def test_tied(self):
        self.assertEqual(State(2, [(0, (0,), ()), (0, (), (1,))]).tied(0, 1), bell())
        self.assertEqual(State(2, [(0, (0,), ()), (0, (), (1,))]).tied(1, 0).looks(), [(0, (0,), ()), (0, (), (1,))])
        # Flip at the first and turn at the second; and both at both.
        tied = State(2, [(0, (0,), (1,)), (0, (1,), (0,))]).tied(0, 1)
        self.assertEqual(tied.look((1, (0, 1), (0, 1))), ("sure", 0))
        tied = State(2, [(0, (0, 1), (0, 1)), (0, (0, 1), ())]).tied(0, 1)
        self.assertEqual(tied.look((1, (0,), (1,))), ("sure", 0))


class TestLooks(ErrorCase):

    def test_sure(self):
        self.assertEqual(bell().look((0, (0, 1), (0, 1))), ("sure", 1))
        self.assertEqual(bell().look((1, (0, 1), (0, 1))), ("sure", 0))
        self.assertEqual(bell().look((0, (), ())), ("sure", 0))
        self.assertEqual(bell().look((1, (), ())), ("sure", 1))

    def test_free(self):
        kind, behind0, behind1 = bell().look((0, (), (0,)))
        self.assertEqual(kind, "free")
        self.assertEqual(behind0, zeros(2))
        self.assertEqual(behind1.looks(), [(1, (), (0,)), (1, (), (1,))])
        kind, behind0, behind1 = bell().look((1, (), (0,)))
        self.assertEqual((kind, behind1), ("free", zeros(2)))
        self.assertEqual(behind0.looks(), [(1, (), (0,)), (1, (), (1,))])


class TestScripts(ErrorCase):

    def test_each_deed(self):
        state = zeros(2)
        cases = [(("sorts", 1), state.swap_sorts(1)), (("quarter", 0), state.quarter(0)),
                 (("tied", 1, 0), state.tied(1, 0)), (("turn", (1, (1,), ())), state.turn_by((0, (1,), ())))]
        for deed, behind in cases:
            self.assertEqual(run(state, [deed], []), (behind, ()))
        self.assertEqual(run(state, [], []), (state, ()))

    def test_bits_of_free_looks_alone(self):
        script = [("look", (0, (), (0,))), ("look", (0, (0,), ())), ("look", (1, (0,), ())), ("look", (0, (), (1,))),
                  ("look", (0, (0, 1), ()))]
        behind, told = run(zeros(2), script, [1, 0, 1, 1])
        self.assertEqual(told, (0, 1, 0, 0, 0))
        self.assertEqual(behind.looks(), [(1, (0,), ()), (1, (1,), ())])

    def test_as_many_bits_as_are_wanted(self):
        script = [("look", (0, (0,), ())), ("look", (0, (), (0,)))] * 2
        self.assertEqual(run(zeros(1), script, [1, 0, 1, 1])[1], (1, 0, 1, 1))
        few = [1, 0, 1]
        self.fails(BadBits, few, run, zeros(1), script, few)
        none = []
        self.fails(BadBits, none, run, zeros(1), script, none)

    def test_sixty_deeds(self):
        script = [("look", (0, (0,), ())), ("look", (0, (), (0,)))] * 30
        bits = [0, 1, 1] * 20
        self.assertEqual(run(zeros(1), script, bits)[1], tuple(bits))
        self.assertEqual(run(zeros(1), [("sorts", 0)] * 60, []), (zeros(1), ()))

    def test_if(self):
        # The first wire's state comes to the third one.
        for start in ([("sorts", 0)], [("sorts", 0), ("quarter", 0)], [("turn", (0, (0,), ()))]):
            wanted = run(zeros(1), start, [])[0].looks()[0]
            script = start + [("sorts", 1), ("tied", 1, 2), ("tied", 0, 1), ("sorts", 0)]
            script += [("look", (0, (), (0,))), ("look", (0, (), (1,)))]
            script += [("if", 1, (0, (2,), ())), ("if", 0, (0, (), (2,)))]
            moved = tuple(tuple(2 for _ in lot) for lot in wanted[1:])
            for bits in ([0, 0], [0, 1], [1, 0], [1, 1]):
                behind, told = run(zeros(3), script, bits)
                self.assertEqual(told, tuple(bits))
                self.assertEqual(behind.look((wanted[0],) + moved), ("sure", 0))

    def test_if_of_a_sure_look(self):
        script = [("turn", (0, (0,), ())), ("look", (0, (), (0,))), ("if", 0, (0, (0,), ()))]
        self.assertEqual(run(zeros(1), script, []), (zeros(1), (1,)))
        script = [("look", (0, (), (0,))), ("if", 0, (0, (0,), ()))]
        self.assertEqual(run(zeros(1), script, []), (zeros(1), (0,)))


class TestNothingChanges(unittest.TestCase):

    def test_lists_that_are_passed(self):
        looks = [(0, (0, 1), (0, 1)), (0, (0, 1), ())]
        before = list(looks)
        state = State(2, looks)
        self.assertEqual(looks, before)
        looks[0] = (1, (), (0,))
        self.assertEqual(state, State(2, before))
        script, bits = [("look", (0, (0,), ())), ("if", 0, (0, (), (0,)))], [1, 1]
        copies = list(script), list(bits)
        run(zeros(1), script, bits)
        self.assertEqual((script, bits), copies)

    def test_lists_that_are_returned(self):
        state = bell()
        state.looks().append(5)
        state.looks().clear()
        self.assertEqual(len(state.looks()), 2)
        self.assertIsNot(state.looks(), state.looks())

    def test_states_never_change(self):
        state = bell()
        state.swap_sorts(0)
        state.quarter(1)
        state.tied(1, 0)
        state.turn_by((0, (0,), (0,)))
        state.look((0, (), (0,)))
        run(state, [("sorts", 0), ("look", (0, (), (0,))), ("if", 0, (0, (0,), ()))], [1])
        self.assertEqual(state, bell())
        self.assertEqual((state.wires, state.looks()), (2, [(0, (0, 1), ()), (0, (), (0, 1))]))


if __name__ == "__main__":
    unittest.main()
