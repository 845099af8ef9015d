"""Values of all kinds that callers may pass, and a check for errors with their `what`."""

import unittest

from blindtwins.books import Book
from blindtwins.calls import Call
from blindtwins.deals import Deal
from blindtwins.errors import BadLot
from blindtwins.house import House
from blindtwins.kept import Kept
from blindtwins.noise import Noise
from blindtwins.stores import Store
from blindtwins.wires import State

BIG = 10 ** 5000


def nested(start, wrap, depth=25):
    for _ in range(depth):
        start = wrap(start)
    return start


def all_kinds():
    """New values of every kind that point 4 lists."""
    plain = [None, True, False, 0, 1, -1, 2, 24, 25, 60, 61, BIG, -BIG, "", "a", "sum", "0" * 1000]
    tuples = [(), (0,), (0, 1), (1, 0), (0, 0), (-1,), (60,), (BIG,), (True,), (False, 1), (0, True)]
    tuples += [(None,), ("0",), ((0,),), ([0],), (0, (1,)), tuple(range(1000)), (Book(2, [(0,)]),)]
    tuples += [("sum", (0,)), ("twin", ()), ("sum", (0,), ())]
    lists = [[], [0], [(0,)], [(True,)], [[0]], [None], [(0,)] * 61, [()] * 1000, [Book(1, [])]]
    dicts = [{}, {0: 0}, {0: (0,)}, {True: 1}, {0: True}, {"a": 1}, {(0,): [0]}, {0: Book(1, [])}]
    objects = [Book(1, []), Book(24, [(0, 23)]), BadLot((0,)), BadLot(), Store(Book(1, []), ((0,),))]
    objects += [Deal(Book(1, []), {"a": (0,)}, {"b": (0,)}), State(1, [(0, (), (0,))]), Kept(1, [])]
    objects += [Call(1, (((0,), (), ()),)), Noise(Book(1, []), [()]), House(Book(1, []), ())]
    deep = [nested(0, lambda x: (x,)), nested((), lambda x: [x]), nested(True, lambda x: {0: x})]
    deep += [nested(Book(3, []), lambda x: (x, [x], {1: x}), 8)]
    return plain + tuples + lists + dicts + objects + deep


def plainly_number(value):
    return type(value) is int


def plainly_lot(value, size):
    """The definition of a lot, word by word."""
    if type(value) is not tuple or not all(plainly_number(place) for place in value):
        return False
    return list(value) == sorted(set(value)) and all(0 <= place < size for place in value)


def no_lots(size):
    """Values of all kinds that are no lots of this size."""
    near = [(size,), (0, size), (0, BIG), [0], "0", (size - 1, size - 1), (False,)]
    return [value for value in all_kinds() + near if not plainly_lot(value, size)]


def plainly_look(value, wires):
    """The definition of a look, word by word."""
    if type(value) is not tuple or len(value) != 3 or not plainly_number(value[0]) or value[0] not in (0, 1):
        return False
    return plainly_lot(value[1], wires) and plainly_lot(value[2], wires)


def no_looks(wires):
    """Values of all kinds that are no looks of so many wires."""
    near = [(0, ()), (0, (), (), ()), [0, (), ()], (2, (), ()), (-1, (), ()), (None, (), ()), ("0", (), ())]
    near += [(True, (), ()), (False, (), ()), ((), (), ()), (0, [], ()), (0, (), []), ((), 0, ()), ((), ())]
    near += [(0, lot, ()) for lot in no_lots(wires)] + [(1, (), lot) for lot in no_lots(wires)]
    return near + [value for value in all_kinds() if not plainly_look(value, wires)]


def plainly_pair(value, wires):
    """The definition of a deed on wires, word by word."""
    return type(value) is tuple and len(value) == 2 and all(plainly_lot(lot, wires) for lot in value)


def no_pairs(wires):
    """Values of all kinds that are no pairs of lots of so many wires."""
    near = [((),), ((), (), ()), [(), ()], (0, (), ()), ([], ()), ((), [0]), (None, ()), ((), True), (0, 0)]
    near += [(lot, ()) for lot in no_lots(wires)] + [((), lot) for lot in no_lots(wires)]
    return near + [value for value in all_kinds() if not plainly_pair(value, wires)]


def no_integers(least, greatest):
    """Values of all kinds that are no integers from the least to the greatest."""
    near = [least - 1, greatest + 1, str(least), (least,), [greatest]]
    values = all_kinds() + near
    return [value for value in values if not (plainly_number(value) and least <= value <= greatest)]


def no_lists():
    """Values of all kinds that are no lists."""
    return [value for value in all_kinds() if type(value) is not list]


def plainly_name(value):
    """The definition of a name, word by word."""
    letters = "abcdefghijklmnopqrstuvwxyz"
    return type(value) is str and 1 <= len(value) <= 12 and all(sign in letters for sign in value)


NO_NAMES = ["", "a" * 13, "A", "a1", "a b", "a\n", "\n", "a_", "\xe9", "\xdf", "\uff41", b"a", 0, None, True]


class ErrorCase(unittest.TestCase):
    """A test case that checks which error a call raises, and its `what`."""

    def fails(self, error, what, call, *args, **named):
        with self.assertRaises(error) as caught:
            call(*args, **named)
        self.assertIs(type(caught.exception), error)
        found = caught.exception.what
        if plainly_number(what):
            self.assertEqual((type(found), found), (int, what))
        else:
            self.assertIs(found, what)

    def fails_for_all(self, error, values, call):
        """The call with each value raises the error with this value."""
        for value in values:
            with self.subTest(kind=type(value).__name__):
                self.fails(error, value, call, value)
