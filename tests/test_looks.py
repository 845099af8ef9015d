"""Points 29 and 30: examples, products against Pauli's matrices and the rule, edges, wrong inputs."""

import random
import unittest

from blindtwins.errors import BadLook, BadLooks, BadSize
from blindtwins.looks import is_look, times, together

from tests.pauli import all_looks, by_the_rule, go_together, matrix, product_of, some_looks
from tests.values import ErrorCase, no_integers, no_looks, plainly_look

TEN = tuple(range(10))


class TestExamples(ErrorCase):

    def test_of_the_document(self):
        self.assertIs(together((0, (0,), ()), (0, (), (0,))), False)
        self.assertEqual(times((0, (0, 1), ()), (0, (), (0, 1))), (1, (0, 1), (0, 1)))
        self.assertEqual(times((0, (0,), (0,)), (0, (0,), (0,))), (0, (), ()))

    def test_by_name(self):
        self.assertIs(is_look(wires=1, value=(0, (0,), ())), True)
        self.assertIs(together(other=(0, (), (0,)), one=(0, (1,), ())), True)
        self.assertEqual(times(other=(0, (), (0, 1)), one=(0, (0, 1), ())), (1, (0, 1), (0, 1)))


class TestProducts(unittest.TestCase):

    def test_against_matrices(self):
        for wires in (1, 2):
            looks = all_looks(wires)
            matrices = {look: matrix(look, wires) for look in looks}
            for one in looks:
                for other in looks:
                    both = product_of(matrices[one], matrices[other])
                    commute = both == product_of(matrices[other], matrices[one])
                    self.assertIs(together(one, other), commute)
                    if commute:
                        self.assertEqual(matrices[times(one, other)], both)

    def test_against_matrices_of_three_and_four_wires(self):
        source = random.Random(29)
        for wires in (3, 4):
            for _ in range(60):
                one, other = some_looks(source, wires, 2)
                if together(one, other):
                    both = product_of(matrix(one, wires), matrix(other, wires))
                    self.assertEqual(matrix(times(one, other), wires), both)

    def test_against_the_rule(self):
        source = random.Random(30)
        pairs = [(one, other) for one in all_looks(2) for other in all_looks(2)]
        pairs += [tuple(some_looks(source, wires, 2)) for wires in (3, 5, 10) for _ in range(400)]
        signs = []
        for one, other in pairs:
            self.assertIs(together(one, other), go_together(one, other))
            self.assertIs(together(other, one), together(one, other))
            if go_together(one, other):
                self.assertEqual(times(one, other), by_the_rule(one, other))
                self.assertEqual(times(other, one), times(one, other))
                signs.append(times(one, other)[0])
        self.assertGreater(min(signs.count(0), signs.count(1)), 300)

    def test_a_look_with_itself(self):
        for look in all_looks(3):
            self.assertEqual(times(look, look), (0, (), ()))
            self.assertEqual(times(look, (1, (), ())), (1 - look[0],) + look[1:])

    def test_ten_wires(self):
        self.assertIs(together((0, TEN, ()), (1, (), TEN)), True)
        self.assertEqual(times((0, TEN, ()), (1, (), TEN)), (0, TEN, TEN))
        self.assertEqual(times((0, TEN, TEN), (0, TEN, TEN)), (0, (), ()))
        self.assertEqual(times((0, TEN, TEN), (0, TEN, ())), (1, (), TEN))
        self.assertIs(together((0, TEN, ()), (0, (), TEN[1:])), False)


class TestIsLook(ErrorCase):

    def test_all_kinds(self):
        for wires in (1, 2, 10):
            for value in no_looks(wires):
                with self.subTest(kind=type(value).__name__):
                    self.assertIs(is_look(value, wires), False)
            for look in all_looks(2):
                self.assertIs(is_look(look, wires), plainly_look(look, wires))

    def test_one_wire_and_ten(self):
        self.assertIs(is_look((1, (0,), (0,)), 1), True)
        self.assertIs(is_look((1, (0,), (1,)), 1), False)
        self.assertIs(is_look((1, TEN, TEN), 10), True)
        self.assertIs(is_look((1, TEN, TEN), 9), False)
        self.assertIs(is_look((0, (10,), ()), 10), False)

    def test_wrong_numbers_of_wires(self):
        for value in ((0, (), ()), None, (0, (11,), ()), []):
            self.fails_for_all(BadSize, no_integers(1, 10), lambda wires: is_look(value, wires))


class TestWrongLooks(ErrorCase):

    def test_each_argument(self):
        for function in (together, times):
            self.fails_for_all(BadLook, no_looks(10), lambda look: function(look, (0, (), ())))
            self.fails_for_all(BadLook, no_looks(10), lambda look: function((0, (9,), ()), look))
            self.fails_for_all(BadLook, no_looks(10), lambda look: function(look, None))

    def test_looks_that_do_not_go_together(self):
        for one in all_looks(2):
            for other in all_looks(2):
                if not go_together(one, other):
                    self.fails(BadLooks, None, times, one, other)
        # BadLook goes ahead.
        wrong = (0, (), (10,))
        self.fails(BadLook, wrong, times, (0, (0,), ()), wrong)


if __name__ == "__main__":
    unittest.main()
