"""Points 31 to 34 against the definitions themselves: all groups of 1 and 2 wires, some of 3."""

import random
import unittest
from itertools import product

from blindtwins.errors import BadLooks
from blindtwins.wires import State, run, zeros

from tests.pauli import NOTHING, all_looks, all_states, by_the_rule, done_to, first_unfit, go_together, group
from tests.pauli import product_of_looks, reduced_looks
from tests.values import ErrorCase


def negative(look):
    return (1 - look[0],) + look[1:]


def group_of(state):
    return group(state.looks())


def deeds(wires):
    """All deeds of a script that are no looks."""
    found = [(kind, wire) for kind in ("sorts", "quarter") for wire in range(wires)]
    found += [("tied", first, second) for first in range(wires) for second in range(wires) if first != second]
    return found + [("turn", look) for look in all_looks(wires)]


def do(state, deed):
    methods = {"sorts": state.swap_sorts, "quarter": state.quarter, "tied": state.tied, "turn": state.turn_by}
    return methods[deed[0]](*deed[1:])


class Images:
    """What deeds make of looks, each looked up once among matrices."""

    def __init__(self):
        self.known = {}

    def of(self, looks, deed, wires):
        found = []
        for look in looks:
            if (look, deed, wires) not in self.known:
                self.known[look, deed, wires] = done_to(look, deed[0], wires, *deed[1:])
            found.append(self.known[look, deed, wires])
        return frozenset(found)


IMAGES = Images()


def threes(number):
    """Some states of 3 wires, with looks that tell them; each look is tried against its group."""
    source = random.Random(31)
    looks = all_looks(3)
    for _ in range(number):
        told = []
        while len(told) < 3:
            look = source.choice(looks)
            if first_unfit([some[1:] for some in told + [look]], 3) is None:
                told.append(look)
        yield told


class TestGroups(ErrorCase):

    def check_told(self, wires, looks):
        index = first_unfit([look[1:] for look in looks], wires)
        if index is not None:
            self.fails(BadLooks, index, State, wires, looks)
            return
        state = State(wires, looks)
        self.assertEqual(state.looks(), reduced_looks(group(looks), wires))
        self.assertEqual(State(wires, state.looks()), state)
        self.assertEqual(state.wires, wires)

    def test_all_lists_of_one_and_two_looks(self):
        for wires in (1, 2):
            for looks in product(all_looks(wires), repeat=wires):
                self.check_told(wires, list(looks))

    def test_some_lists_of_three_looks(self):
        for looks in threes(150):
            self.check_told(3, looks)
        source = random.Random(32)
        for _ in range(300):
            self.check_told(3, [source.choice(all_looks(3)) for _ in range(3)])

    def test_numbers_of_groups(self):
        self.assertEqual([len(all_states(1)), len(all_states(2))], [6, 60])

    def test_equal_just_if_the_groups_are(self):
        source = random.Random(33)
        states = []
        for looks in list(all_states(2).values()) + list(threes(20)):
            wires = len(looks)
            states.append((State(wires, looks), group(looks)))
            told = []
            while len(told) < wires:
                look = source.choice(sorted(group(looks)))
                if first_unfit([some[1:] for some in told + [look]], wires) is None:
                    told.append(look)
            states.append((State(wires, told), group(looks)))
        for one, first in states:
            for other, second in states:
                self.assertIs(one == other, first == second)

    def test_zeros(self):
        for wires in (1, 2, 3, 10):
            looks = [(0, (), (wire,)) for wire in range(wires)]
            self.assertEqual(zeros(wires), State(wires, looks))
            self.assertEqual(group_of(zeros(wires)), group(looks))


class TestDeeds(unittest.TestCase):

    def test_against_matrices(self):
        for wires in (1, 2):
            for members, looks in all_states(wires).items():
                state = State(wires, looks)
                for deed in deeds(wires):
                    behind = do(state, deed)
                    self.assertEqual(group_of(behind), IMAGES.of(members, deed, wires))
                    self.assertEqual(State(wires, looks), state)

    def test_against_matrices_of_three_wires(self):
        source = random.Random(34)
        for looks in threes(12):
            for deed in source.sample(deeds(3), 3) + [("tied", 2, 0), ("sorts", 1)]:
                behind = do(State(3, looks), deed)
                self.assertEqual(group_of(behind), IMAGES.of(group(looks), deed, 3))

    def test_each_deed_is_taken_back(self):
        states = [State(len(looks), looks) for wires in (1, 2) for looks in all_states(wires).values()]
        states += [State(3, looks) for looks in threes(20)]
        for state in states:
            for deed in deeds(state.wires):
                again = do(do(state, deed), deed)
                if deed[0] == "quarter":
                    self.assertEqual(again, state.turn_by((0, (), (deed[1],))))
                    again = do(do(again, deed), deed)
                self.assertEqual(again, state)


class TestLooks(unittest.TestCase):

    def check(self, wires, members, state):
        for look in all_looks(wires):
            answer = state.look(look)
            if look in members:
                self.assertEqual(answer, ("sure", 0))
            elif negative(look) in members:
                self.assertEqual(answer, ("sure", 1))
            else:
                self.assertEqual((type(answer), answer[0]), (tuple, "free"))
                kept = [other for other in members if go_together(other, look)]
                for bit, behind in enumerate(answer[1:]):
                    own = look if bit == 0 else negative(look)
                    expected = frozenset(kept + [by_the_rule(other, own) for other in kept])
                    self.assertEqual(group_of(behind), expected)
                    self.assertEqual(behind.look(look), ("sure", bit))

    def test_all_states_of_one_and_two_wires(self):
        for wires in (1, 2):
            for members, looks in all_states(wires).items():
                self.check(wires, members, State(wires, looks))

    def test_some_states_of_three_wires(self):
        for looks in threes(10):
            self.check(3, group(looks), State(3, looks))


class TestScripts(unittest.TestCase):

    def plainly(self, state, script, bits):
        told, bits = [], list(bits)
        for deed in script:
            if deed[0] == "look":
                answer = state.look(deed[1])
                if answer[0] == "free":
                    told.append(bits.pop(0))
                    state = answer[1 + told[-1]]
                else:
                    told.append(answer[1])
            elif deed[0] == "if":
                state = state.turn_by(deed[2]) if told[deed[1]] == 1 else state
            else:
                state = do(state, deed)
        return state, tuple(told)

    def test_deed_by_deed(self):
        source = random.Random(35)
        for _ in range(150):
            wires = source.randrange(1, 4)
            script, looks = [], 0
            for _ in range(source.randrange(12)):
                kind = source.randrange(4)
                look = source.choice(all_looks(wires))
                if kind == 0:
                    script.append(("look", look))
                    looks += 1
                elif kind == 1 and looks:
                    script.append(("if", source.randrange(looks), look))
                else:
                    script.append(source.choice(deeds(wires)))
            bits = [source.randrange(2) for _ in range(12)]
            self.assertEqual(run(zeros(wires), script, bits), self.plainly(zeros(wires), script, bits))


class TestTheDefinitions(unittest.TestCase):

    def test_products_do_not_depend_on_the_order(self):
        for looks in threes(30):
            self.assertEqual(product_of_looks(looks), product_of_looks(looks[::-1]))
            self.assertEqual(len(group(looks)), 8)
            self.assertNotIn(negative(NOTHING), group(looks))


if __name__ == "__main__":
    unittest.main()
