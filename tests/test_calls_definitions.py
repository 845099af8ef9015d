"""Points 39 and 40 against the definitions themselves: all rows of bits, all sums, all chains."""

import random
import unittest
from itertools import combinations, product

from blindtwins.calls import Call, chain_fault, fewest, longest_chain, serve_fault

from tests import plain


def some_calls(source, blocks, number):
    """Calls of so many blocks, some of whose hearers have much and some little."""
    for _ in range(number):
        hearers = []
        for _ in range(source.randrange(1, 4)):
            weights = source.choice([(1, 1, 1, 1), (4, 2, 1, 3), (1, 2, 0, 4), (3, 3, 2, 0)])
            kinds = source.choices(range(4), weights, k=blocks)
            hearers.append(tuple(tuple(k for k in range(blocks) if kinds[k] == kind) for kind in range(3)))
        yield Call(blocks, tuple(hearers))


def told_to(call, sums, hearer):
    """All lots that are sums of some of the sums and of blocks that the hearer has."""
    return plain.sums(list(sums) + [(block,) for block in call.hearers[hearer][0]])


def is_twin(call, sums, hearer, block, lot):
    if not set(lot) <= set(range(call.blocks)) or list(lot) != sorted(set(lot)):
        return False
    return not set(lot) & set(call.hearers[hearer][0]) and not any(plain.bit(lot, sum_) for sum_ in sums) \
        and block in lot


def expected_fault(call, sums):
    """The fault as serve_fault tells it, without the twin."""
    for hearer, (_, wants, hidden) in enumerate(call.hearers):
        told = told_to(call, sums, hearer)
        for block in wants:
            if (block,) not in told:
                return "wants", hearer, block
        heard = [lot for lot in sorted(plain.parts_of(hidden)) if lot and lot in told]
        if heard:
            return "hidden", hearer, heard[0]
    return None


def by_the_bits(call, sums):
    """True if, over all rows of bits, each hearer is told what it wants and nothing of what is hidden."""
    for has, wants, hidden in call.hearers:
        for wanted in wants:
            seen = {}
            for word in plain.all_lots(call.blocks):
                shown = plain.cut(word, has), tuple(plain.bit(word, lot) for lot in sums)
                if seen.setdefault(shown, wanted in word) != (wanted in word):
                    return False
        rows = {}
        for word in plain.all_lots(call.blocks):
            shown = plain.cut(word, has), tuple(plain.bit(word, lot) for lot in sums)
            rows.setdefault(shown, set()).add(plain.cut(word, hidden))
        if any(len(row) < 2 ** len(hidden) for row in rows.values()):
            return False
    return True


def faults_of_chain(call, chain):
    """All faults of a list of pairs, in the order told."""
    found = [("wants", index) for index, (hearer, block) in enumerate(chain) if block not in call.hearers[hearer][1]]
    found += [("twice", index) for index, (_, block) in enumerate(chain) if block in [b for _, b in chain[:index]]]
    found += [("has", index, later) for index, (hearer, _) in enumerate(chain)
              for later in range(index + 1, len(chain)) if chain[later][1] in call.hearers[hearer][0]]
    return found


def longest(call, chain=()):
    """The length of a longest chain that goes on with this one, by trying all."""
    best = len(chain)
    for hearer, (_, wants, _) in enumerate(call.hearers):
        for block in wants:
            if not faults_of_chain(call, chain + ((hearer, block),)):
                best = max(best, longest(call, chain + ((hearer, block),)))
    return best


class TestServe(unittest.TestCase):

    def test_faults(self):
        source = random.Random(39)
        kinds = []
        for blocks in (1, 2, 3, 4, 5):
            for call in some_calls(source, blocks, 60):
                for number in (0, 1, 2, 3, blocks, 2 * blocks):
                    sums = [source.choice(plain.all_lots(blocks)) for _ in range(number)]
                    found, expected = serve_fault(call, sums), expected_fault(call, sums)
                    kinds.append(expected and expected[0])
                    if expected and expected[0] == "wants":
                        self.assertEqual((len(found), found[:3]), (4, expected))
                        self.assertTrue(is_twin(call, sums, *found[1:]))
                    else:
                        self.assertEqual(found, expected)
        self.assertGreater(min(kinds.count(kind) for kind in ("wants", "hidden", None)), 50)

    def test_no_fault_just_if_all_bits_say_so(self):
        source = random.Random(40)
        for blocks in (1, 2, 3, 4):
            for call in some_calls(source, blocks, 40):
                for number in (0, 1, 2, 4):
                    sums = [source.choice(plain.all_lots(blocks)) for _ in range(number)]
                    self.assertIs(serve_fault(call, sums) is None, by_the_bits(call, sums))


class TestFewest(unittest.TestCase):

    def check(self, call):
        found = fewest(call)
        # More sums than blocks tell no more than some of them.
        numbers = range(call.blocks + 1)
        if found is not None:
            number, sums = found
            self.assertEqual((type(sums), len(sums)), (list, number))
            self.assertIsNone(expected_fault(call, sums))
            self.assertGreaterEqual(number, longest(call))
            numbers = range(number)
        for number in numbers:
            for sums in combinations(plain.all_lots(call.blocks)[1:], number):
                self.assertIsNotNone(expected_fault(call, list(sums)))
        return found and found[0]

    def test_all_calls_of_two_blocks(self):
        lots = plain.all_lots(2)
        hearers = [some for some in product(lots, repeat=3) if len(sum(some, ())) == len(set(sum(some, ())))]
        for number in (1, 2):
            for some in product(hearers, repeat=number):
                self.check(Call(2, some))

    def test_some_calls(self):
        source = random.Random(41)
        numbers = []
        for blocks, number in ((3, 120), (4, 30), (5, 60)):
            for call in some_calls(source, blocks, number):
                most = fewest(call) and fewest(call)[0]
                if blocks < 5 or most in (0, 1, 2, 3):
                    numbers.append(self.check(call))
        self.assertGreater(min(numbers.count(number) for number in (None, 1, 2, 3)), 5)


class TestChains(unittest.TestCase):

    def test_faults(self):
        source = random.Random(42)
        kinds = []
        for blocks in (1, 2, 3, 4, 5):
            for call in some_calls(source, blocks, 80):
                wanted = [(hearer, block) for hearer, lots in enumerate(call.hearers) for block in lots[1]]
                for number in (0, 1, 2, 3, 4):
                    chain = [(source.randrange(len(call.hearers)), source.randrange(blocks)) for _ in range(number)]
                    if wanted and source.randrange(8):
                        chain = source.sample(wanted * 2, min(number, len(wanted)))
                    expected = (faults_of_chain(call, chain) + [None])[0]
                    self.assertEqual(chain_fault(call, chain), expected)
                    kinds.append(expected and expected[0])
        self.assertGreater(min(kinds.count(kind) for kind in ("wants", "twice", "has", None)), 30)

    def test_longest(self):
        source = random.Random(43)
        lengths = []
        for blocks in (1, 2, 3, 4, 5):
            for call in some_calls(source, blocks, 60):
                chain = longest_chain(call)
                self.assertEqual(faults_of_chain(call, chain), [])
                self.assertEqual(len(chain), longest(call))
                lengths.append(len(chain))
        self.assertGreater(min(lengths.count(length) for length in (0, 1, 2, 3, 4)), 5)


if __name__ == "__main__":
    unittest.main()
