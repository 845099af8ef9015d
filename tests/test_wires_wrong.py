"""Points 31 to 34: wrong inputs."""

import unittest

from blindtwins.errors import BadBits, BadLook, BadLooks, BadScript, BadSize, BadWire
from blindtwins.wires import State, run, zeros

from tests.values import ErrorCase, all_kinds, no_integers, no_lists, no_looks, no_lots, plainly_number

TURN = (0, (), (0,))


def no_deeds(wires, looks):
    """Values of all kinds that are no deeds of a script, with so many looks ahead."""
    names = ("sorts", "quarter", "tied", "turn", "look", "if")
    deeds = [value for value in all_kinds()]
    deeds += [(name,) for name in names] + [(name, 0, 0, 0) for name in names] + [[name, 0] for name in names]
    deeds += [(name, wire) for name in names[:2] for wire in no_integers(0, wires - 1)]
    deeds += [(name, TURN) for name in names[:2]] + [(name, 0, 1) for name in names[:2]]
    deeds += [("tied", wire, 1) for wire in no_integers(0, wires - 1)]
    deeds += [("tied", 1, wire) for wire in no_integers(0, wires - 1)]
    deeds += [("tied", wire, wire) for wire in range(wires)] + [("tied", 0), ("tied", 0, 1, 0), ["tied", 0, 1]]
    deeds += [(name, look) for name in ("turn", "look") for look in no_looks(wires)]
    deeds += [(name, look, look) for name in ("turn", "look") for look in (TURN, 0)]
    deeds += [("if", index, TURN) for index in no_integers(0, looks - 1)]
    deeds += [("if", 0, look) for look in no_looks(wires)] + [("if", TURN, 0), ("if", TURN), ("if", 0, TURN, 0)]
    deeds += [(name, 0) for name in all_kinds()] + [(name, TURN) for name in all_kinds()]
    deeds += [("Sorts", 0), ("sorts ", 0), ("", 0), (b"sorts", 0), ("swap_sorts", 0), ("turn_by", TURN)]
    return deeds + [(name, 0, TURN) for name in all_kinds()] + [(name, 0, 1) for name in all_kinds()]


class TestStates(ErrorCase):

    def test_wires(self):
        for looks in ([], [TURN], None):
            self.fails_for_all(BadSize, no_integers(1, 10), lambda wires: State(wires, looks))
        self.fails_for_all(BadSize, no_integers(1, 10), zeros)

    def test_no_lists(self):
        for value in no_lists():
            self.fails(BadLooks, -1, State, 2, value)
        for value in ([TURN], [TURN] * 3, [None], [None] * 11, ((TURN, TURN))):
            self.fails(BadLooks, -1, State, 2, value)

    def test_no_looks(self):
        for value in no_looks(2):
            self.fails(BadLooks, 0, State, 2, [value, None])
            self.fails(BadLooks, 1, State, 2, [TURN, value])

    def test_the_first_wrong_look(self):
        self.fails(BadLooks, 1, State, 3, [TURN, TURN, None])
        self.fails(BadLooks, 1, State, 3, [TURN, None, TURN])
        self.fails(BadLooks, 1, State, 3, [TURN, (0, (0,), ()), (0, (), ())])
        self.fails(BadLooks, 2, State, 3, [TURN, (0, (), (1,)), (0, (0,), ())])


class TestDeeds(ErrorCase):

    def test_wires(self):
        for state in (zeros(1), zeros(3)):
            wrong = no_integers(0, state.wires - 1)
            self.fails_for_all(BadWire, wrong, state.swap_sorts)
            self.fails_for_all(BadWire, wrong, state.quarter)
            self.fails_for_all(BadWire, wrong, lambda wire: state.tied(wire, None))
            self.fails_for_all(BadWire, wrong, lambda wire: state.tied(wire, 0))
            self.fails_for_all(BadWire, wrong, lambda wire: state.tied(0, wire))

    def test_the_same_wire_twice(self):
        for wire in range(3):
            self.fails(BadWire, wire, zeros(3).tied, wire, wire)
        self.fails(BadWire, 3, zeros(3).tied, 3, 3)

    def test_looks(self):
        for state in (zeros(1), zeros(2)):
            self.fails_for_all(BadLook, no_looks(state.wires), state.turn_by)
            self.fails_for_all(BadLook, no_looks(state.wires), state.look)


class TestScripts(ErrorCase):

    def test_no_lists(self):
        for value in no_lists():
            self.fails(BadScript, -1, run, zeros(1), value, None)
        self.fails(BadScript, -1, run, zeros(1), [("sorts", 0)] * 61, [])
        self.fails(BadScript, -1, run, zeros(1), [None] * 61, [])

    def test_no_deeds(self):
        looks = [("look", TURN)] * 2
        for value in no_deeds(2, 2):
            self.fails(BadScript, 2, run, zeros(2), looks + [value], [])
            self.fails(BadScript, 2, run, zeros(2), looks + [value, None], None)
        for value in no_deeds(2, 0):
            self.fails(BadScript, 0, run, zeros(2), [value] + looks, [])

    def test_if_of_a_look_that_is_not_ahead(self):
        turn = ("if", 0, TURN)
        self.fails(BadScript, 0, run, zeros(1), [turn, ("look", TURN)], [])
        self.fails(BadScript, 1, run, zeros(1), [("sorts", 0), turn, ("look", TURN)], [])
        script = [("look", TURN), turn, ("look", TURN), ("if", 1, TURN), ("if", 2, TURN), ("look", TURN)]
        self.fails(BadScript, 4, run, zeros(1), script, [])
        self.assertEqual(run(zeros(1), script[:4], []), (zeros(1), (0, 0)))

    def test_bits(self):
        plain = [value for value in all_kinds() if not (plainly_number(value) and value in (0, 1))]
        wrong = no_lists() + [[0] * 61, [0, 2], [0, True], [False], [-1], [1, None], ["0"], (0, 1), [[0]]]
        wrong += [[0, value] for value in plain]
        for script in ([], [("look", TURN)], [("look", (0, (0,), ()))]):
            self.fails_for_all(BadBits, wrong, lambda bits: run(zeros(1), script, bits))
        self.assertEqual(run(zeros(1), [], [1] * 60), (zeros(1), ()))

    def test_scripts_go_ahead_of_bits(self):
        self.fails(BadScript, 1, run, zeros(1), [("look", (0, (0,), ())), ("look", TURN, 1)], [])
        bits = [0] * 61
        self.fails(BadBits, bits, run, zeros(1), [("look", (0, (0,), ()))], bits)

    def test_lots_of_unlike_wires(self):
        for lot in no_lots(2):
            self.fails(BadScript, 1, run, zeros(2), [("sorts", 0), ("turn", (0, lot, ()))], [])


if __name__ == "__main__":
    unittest.main()
