"""Values of all kinds that callers may pass, and a check for errors with their `what`."""

import unittest

from blindtwins.books import Book
from blindtwins.deals import Deal
from blindtwins.errors import BadLot
from blindtwins.stores import Store

BIG = 10 ** 5000


def nested(start, wrap, depth=25):
    for _ in range(depth):
        start = wrap(start)
    return start


def all_kinds():
    """New values of every kind that point 4 lists."""
    plain = [None, True, False, 0, 1, -1, 2, 24, 25, 60, 61, BIG, -BIG, "", "a", "sum", "0" * 1000]
    tuples = [(), (0,), (0, 1), (1, 0), (0, 0), (-1,), (60,), (BIG,), (True,), (False, 1), (0, True)]
    tuples += [(None,), ("0",), ((0,),), ([0],), (0, (1,)), tuple(range(1000)), (Book(2, [(0,)]),)]
    tuples += [("sum", (0,)), ("twin", ()), ("sum", (0,), ())]
    lists = [[], [0], [(0,)], [(True,)], [[0]], [None], [(0,)] * 61, [()] * 1000, [Book(1, [])]]
    dicts = [{}, {0: 0}, {0: (0,)}, {True: 1}, {0: True}, {"a": 1}, {(0,): [0]}, {0: Book(1, [])}]
    objects = [Book(1, []), Book(24, [(0, 23)]), BadLot((0,)), BadLot(), Store(Book(1, []), ((0,),))]
    objects += [Deal(Book(1, []), {"a": (0,)}, {"b": (0,)})]
    deep = [nested(0, lambda x: (x,)), nested((), lambda x: [x]), nested(True, lambda x: {0: x})]
    deep += [nested(Book(3, []), lambda x: (x, [x], {1: x}), 8)]
    return plain + tuples + lists + dicts + objects + deep


def plainly_number(value):
    return type(value) is int


def plainly_lot(value, size):
    """The definition of a lot, word by word."""
    if type(value) is not tuple or not all(plainly_number(place) for place in value):
        return False
    return list(value) == sorted(set(value)) and all(0 <= place < size for place in value)


def no_lots(size):
    """Values of all kinds that are no lots of this size."""
    near = [(size,), (0, size), (0, BIG), [0], "0", (size - 1, size - 1), (False,)]
    return [value for value in all_kinds() + near if not plainly_lot(value, size)]


def no_integers(least, greatest):
    """Values of all kinds that are no integers from the least to the greatest."""
    near = [least - 1, greatest + 1, str(least), (least,), [greatest]]
    values = all_kinds() + near
    return [value for value in values if not (plainly_number(value) and least <= value <= greatest)]


def no_lists():
    """Values of all kinds that are no lists."""
    return [value for value in all_kinds() if type(value) is not list]


def plainly_name(value):
    """The definition of a name, word by word."""
    letters = "abcdefghijklmnopqrstuvwxyz"
    return type(value) is str and 1 <= len(value) <= 12 and all(sign in letters for sign in value)


NO_NAMES = ["", "a" * 13, "A", "a1", "a b", "a\n", "\n", "a_", "\xe9", "\xdf", "\uff41", b"a", 0, None, True]


class ErrorCase(unittest.TestCase):
    """A test case that checks which error a call raises, and its `what`."""

    def fails(self, error, what, call, *args, **named):
        with self.assertRaises(error) as caught:
            call(*args, **named)
        self.assertIs(type(caught.exception), error)
        found = caught.exception.what
        if plainly_number(what):
            self.assertEqual((type(found), found), (int, what))
        else:
            self.assertIs(found, what)

    def fails_for_all(self, error, values, call):
        """The call with each value raises the error with this value."""
        for value in values:
            with self.subTest(kind=type(value).__name__):
                self.fails(error, value, call, value)
