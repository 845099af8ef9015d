"""Point 44 against the definitions themselves: chains of deeds over small books."""

import random
import unittest

from blindtwins.books import Book
from blindtwins.errors import Blind, Fallen, Standing
from blindtwins.house import House

from tests import plain


class Plain:
    """A house with all that it ever was."""

    def __init__(self, size, words, word):
        self.size = size
        self.words = words
        self.word = word
        self.states = [((), (), 0)]

    def known(self, part, lot):
        return lot in plain.known_lots(self.size, self.words, part)

    def twins(self, part, lot):
        return [word for word in plain.zero_on(self.words, part) if plain.bit(word, lot) == 1]

    def do(self, kind, at):
        """(what it tells, None), or (error, the values that it may have)."""
        seen, fallen, asked = self.states[-1]
        standing = plain.without(tuple(range(self.size)), fallen)
        told = None
        if kind in ("look", "fall") and at in fallen:
            return Fallen, [at]
        if kind == "look":
            seen, told = plain.union([seen, (at,)]), int(at in self.word)
        elif kind == "ask":
            if not self.known(seen, at):
                return Blind, self.twins(seen, at)
            asked, told = asked + 1, plain.bit(self.word, at)
        elif kind == "fall":
            seen, fallen = plain.without(seen, (at,)), plain.union([fallen, (at,)])
        elif at not in fallen:
            return Standing, [at]
        elif not self.known(standing, (at,)):
            return Blind, self.twins(standing, (at,))
        else:
            fallen = plain.without(fallen, (at,))
        self.states.append((seen, fallen, asked))
        return told, None


class TestHouse(unittest.TestCase):

    def houses(self):
        source = random.Random(44)
        for size, number in ((1, 4), (2, 8), (3, 20), (4, 30), (5, 30)):
            for _ in range(number):
                words = plain.sums(source.sample(plain.all_lots(size), source.randrange(1, size + 1)))
                word = source.choice(sorted(words))
                yield source, Plain(size, words, word), House(Book(size, sorted(words)), word)

    def check(self, one, house):
        self.assertEqual((house.seen, house.fallen, house.asked), one.states[-1])
        self.assertEqual(len(house), len(one.states) - 1)
        self.assertEqual([place for place in range(one.size + 1) if place in house], list(house.seen))

    def some_deed(self, source, one):
        kind = source.choice(("look", "look", "ask", "ask", "fall", "heal", "heal"))
        if kind == "ask":
            return kind, source.choice(plain.all_lots(one.size))
        return kind, source.randrange(one.size)

    def do(self, one, house, kind, at):
        told, values = one.do(kind, at)
        if values is None:
            self.assertEqual(getattr(house, kind)(at), told)
            return kind
        with self.assertRaises(told) as caught:
            getattr(house, kind)(at)
        self.assertIn(caught.exception.what, values)
        return kind, told

    def test_deed_by_deed(self):
        found = []
        for source, one, house in self.houses():
            for _ in range(40):
                if source.randrange(5) == 0:
                    self.assertIs(house.undo(), len(one.states) > 1)
                    one.states = one.states[:-1] if len(one.states) > 1 else one.states
                else:
                    found.append(self.do(one, house, *self.some_deed(source, one)))
                self.check(one, house)
        cases = ["look", "ask", "fall", "heal", ("look", Fallen), ("ask", Blind), ("fall", Fallen),
                 ("heal", Standing), ("heal", Blind)]
        self.assertGreater(min(found.count(case) for case in cases), 20)

    def test_many_deeds_at_once(self):
        ends = []
        for source, one, house in self.houses():
            for _ in range(12):
                deeds = [self.some_deed(source, one) for _ in range(source.randrange(5))]
                ends.append(self.check_at_once(source.randrange(3), one, house, deeds))
                self.check(one, house)
        self.assertGreater(min(ends.count(end) for end in range(6)), 20)

    def check_at_once(self, way, one, house, deeds):
        before = list(one.states)
        told = []
        for kind, at in deeds:
            expected, values = one.do(kind, at)
            if values is not None:
                break
            told.append(expected)
        failed = len(told) < len(deeds)
        found = []
        try:
            if way == 0:
                found = house.trial(deeds)
            elif way == 1:
                for bit in house.watch(deeds):
                    found.append(bit)
            else:
                house += deeds
                found = told
        except (Fallen, Standing, Blind) as error:
            self.assertTrue(failed)
            self.assertIs(type(error), expected)
            self.assertIn(error.what, values)
            self.assertEqual(found, told if way == 1 else [])
        else:
            self.assertFalse(failed)
            self.assertEqual(found, told)
        if way == 0 or (way == 2 and failed):
            one.states = before
        return 2 * way + failed


if __name__ == "__main__":
    unittest.main()
