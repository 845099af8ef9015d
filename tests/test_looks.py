"""Points 29 and 30: examples, products against Pauli's matrices and the rule, edges, wrong inputs."""

import random
import unittest

from blindtwins.errors import BadLook, BadLooks, BadSize
from blindtwins.looks import is_look, times, together

from tests import plain
from tests.values import ErrorCase, all_kinds, no_integers, no_lots, plainly_lot, plainly_number

TEN = tuple(range(10))
ONE, FLIP, TURN, BOTH = ((1, 0), (0, 1)), ((0, 1), (1, 0)), ((1, 0), (0, -1)), ((0, -1j), (1j, 0))


def all_looks(wires):
    lots = plain.all_lots(wires)
    return [(sign, flips, turns) for sign in (0, 1) for flips in lots for turns in lots]


def beside(one, other):
    """The Kronecker product of two matrices."""
    return tuple(tuple(a * b for a in first for b in second) for first in one for second in other)


def matrix(look, wires):
    """The operator that a look stands for."""
    sign, flips, turns = look
    result = ((1 - 2 * sign,),)
    for wire in range(wires):
        kinds = {(0, 0): ONE, (1, 0): FLIP, (0, 1): TURN, (1, 1): BOTH}
        result = beside(result, kinds[wire in flips, wire in turns])
    return result


def product_of(one, other):
    columns = list(zip(*other))
    return tuple(tuple(sum(a * b for a, b in zip(row, column)) for column in columns) for row in one)


def common(one, other):
    return len(set(one) & set(other))


def go_together(one, other):
    """The definition of point 29, word by word."""
    return common(one[1], other[2]) % 2 == common(one[2], other[1]) % 2


def by_the_rule(one, other):
    (s, f, t), (s2, f2, t2) = one, other
    flips, turns = plain.add(f, f2), plain.add(t, t2)
    number = 2 * s + 2 * s2 + common(f, t) + common(f2, t2) + 2 * common(t, f2) - common(flips, turns)
    assert number % 4 in (0, 2)
    return number % 4 // 2, flips, turns


def some_looks(source, wires, number):
    lots = [tuple(sorted(source.sample(range(wires), source.randrange(wires + 1)))) for _ in range(2 * number)]
    return [(source.randrange(2), lots[2 * k], lots[2 * k + 1]) for k in range(number)]


def plainly_look(value, wires):
    """The definition of a look, word by word."""
    if type(value) is not tuple or len(value) != 3 or not plainly_number(value[0]) or value[0] not in (0, 1):
        return False
    return plainly_lot(value[1], wires) and plainly_lot(value[2], wires)


def no_looks(wires):
    """Values of all kinds that are no looks of so many wires."""
    near = [(0, ()), (0, (), (), ()), [0, (), ()], (2, (), ()), (-1, (), ()), (None, (), ()), ("0", (), ())]
    near += [(True, (), ()), (False, (), ()), ((), (), ()), (0, [], ()), (0, (), []), ((), 0, ()), ((), ())]
    near += [(0, lot, ()) for lot in no_lots(wires)] + [(1, (), lot) for lot in no_lots(wires)]
    return near + [value for value in all_kinds() if not plainly_look(value, wires)]


class TestExamples(ErrorCase):

    def test_of_the_document(self):
        self.assertIs(together((0, (0,), ()), (0, (), (0,))), False)
        self.assertEqual(times((0, (0, 1), ()), (0, (), (0, 1))), (1, (0, 1), (0, 1)))
        self.assertEqual(times((0, (0,), (0,)), (0, (0,), (0,))), (0, (), ()))

    def test_by_name(self):
        self.assertIs(is_look(wires=1, value=(0, (0,), ())), True)
        self.assertIs(together(other=(0, (), (0,)), one=(0, (1,), ())), True)
        self.assertEqual(times(other=(0, (), (0, 1)), one=(0, (0, 1), ())), (1, (0, 1), (0, 1)))


class TestProducts(unittest.TestCase):

    def test_against_matrices(self):
        for wires in (1, 2):
            looks = all_looks(wires)
            matrices = {look: matrix(look, wires) for look in looks}
            for one in looks:
                for other in looks:
                    both = product_of(matrices[one], matrices[other])
                    commute = both == product_of(matrices[other], matrices[one])
                    self.assertIs(together(one, other), commute)
                    if commute:
                        self.assertEqual(matrices[times(one, other)], both)

    def test_against_matrices_of_three_and_four_wires(self):
        source = random.Random(29)
        for wires in (3, 4):
            for _ in range(60):
                one, other = some_looks(source, wires, 2)
                if together(one, other):
                    both = product_of(matrix(one, wires), matrix(other, wires))
                    self.assertEqual(matrix(times(one, other), wires), both)

    def test_against_the_rule(self):
        source = random.Random(30)
        pairs = [(one, other) for one in all_looks(2) for other in all_looks(2)]
        pairs += [tuple(some_looks(source, wires, 2)) for wires in (3, 5, 10) for _ in range(400)]
        signs = []
        for one, other in pairs:
            self.assertIs(together(one, other), go_together(one, other))
            self.assertIs(together(other, one), together(one, other))
            if go_together(one, other):
                self.assertEqual(times(one, other), by_the_rule(one, other))
                self.assertEqual(times(other, one), times(one, other))
                signs.append(times(one, other)[0])
        self.assertGreater(min(signs.count(0), signs.count(1)), 300)

    def test_a_look_with_itself(self):
        for look in all_looks(3):
            self.assertEqual(times(look, look), (0, (), ()))
            self.assertEqual(times(look, (1, (), ())), (1 - look[0],) + look[1:])

    def test_ten_wires(self):
        self.assertIs(together((0, TEN, ()), (1, (), TEN)), True)
        self.assertEqual(times((0, TEN, ()), (1, (), TEN)), (0, TEN, TEN))
        self.assertEqual(times((0, TEN, TEN), (0, TEN, TEN)), (0, (), ()))
        self.assertEqual(times((0, TEN, TEN), (0, TEN, ())), (1, (), TEN))
        self.assertIs(together((0, TEN, ()), (0, (), TEN[1:])), False)


class TestIsLook(ErrorCase):

    def test_all_kinds(self):
        for wires in (1, 2, 10):
            for value in no_looks(wires):
                with self.subTest(kind=type(value).__name__):
                    self.assertIs(is_look(value, wires), False)
            for look in all_looks(2):
                self.assertIs(is_look(look, wires), plainly_look(look, wires))

    def test_one_wire_and_ten(self):
        self.assertIs(is_look((1, (0,), (0,)), 1), True)
        self.assertIs(is_look((1, (0,), (1,)), 1), False)
        self.assertIs(is_look((1, TEN, TEN), 10), True)
        self.assertIs(is_look((1, TEN, TEN), 9), False)
        self.assertIs(is_look((0, (10,), ()), 10), False)

    def test_wrong_numbers_of_wires(self):
        for value in ((0, (), ()), None, (0, (11,), ()), []):
            self.fails_for_all(BadSize, no_integers(1, 10), lambda wires: is_look(value, wires))


class TestWrongLooks(ErrorCase):

    def test_each_argument(self):
        for function in (together, times):
            self.fails_for_all(BadLook, no_looks(10), lambda look: function(look, (0, (), ())))
            self.fails_for_all(BadLook, no_looks(10), lambda look: function((0, (9,), ()), look))
            self.fails_for_all(BadLook, no_looks(10), lambda look: function(look, None))

    def test_looks_that_do_not_go_together(self):
        for one in all_looks(2):
            for other in all_looks(2):
                if not go_together(one, other):
                    self.fails(BadLooks, None, times, one, other)
        # BadLook goes ahead.
        wrong = (0, (), (10,))
        self.fails(BadLook, wrong, times, (0, (0,), ()), wrong)


if __name__ == "__main__":
    unittest.main()
