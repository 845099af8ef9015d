"""The greatest states, kept wires, calls and noise: right answers, each call within a few seconds."""

import random
import unittest
from itertools import combinations

from blindtwins.books import Book
from blindtwins.calls import Call, chain_fault, fewest, longest_chain, serve_fault
from blindtwins.kept import Kept, between, from_books, gain, mends, moved_off, weakest_wires
from blindtwins.looks import together
from blindtwins.lots import total
from blindtwins.noise import Noise, ask_again, greatest, surely, up_to, words_of
from blindtwins.stores import Store, lost
from blindtwins.wires import State, run, zeros

from tests.pauli import flat, group, pair_of, product_of_looks, reduced_looks, some_looks
from tests.plain import add, without
from tests.test_large import WHOLE, large_books, some_lot, within_seconds

TEN = tuple(range(10))
TWELVE = tuple(range(12))


def some_deeds(source, number):
    """Deeds for 10 wires without looks."""
    deeds = []
    for look in some_looks(source, 10, number):
        wire, other = source.sample(TEN, 2)
        deeds.append(source.choice([("sorts", wire), ("quarter", wire), ("tied", wire, other), ("turn", look)]))
    return deeds


def taken_back(deeds):
    back = []
    for deed in deeds[::-1]:
        back += [deed] * (3 if deed[0] == "quarter" else 1)
    return back


def ten_wires(source):
    state, _ = run(zeros(10), some_deeds(source, 60), [])
    return run(state, some_deeds(source, 60), [])[0]


class TestStates(unittest.TestCase):

    def test_reduced_looks(self):
        source = random.Random(10)
        for _ in range(5):
            state = within_seconds(ten_wires, source)
            members = group(state.looks())
            self.assertEqual(state.looks(), reduced_looks(members, 10))
            told = [product_of_looks(state.looks()[:k + 1]) for k in range(10)]
            self.assertEqual(within_seconds(State, 10, told), state)

    def test_scripts(self):
        source = random.Random(60)
        for _ in range(5):
            start = ten_wires(source)
            script = some_deeds(source, 60)
            state, told = within_seconds(run, start, script, [])
            back = taken_back(script)
            while back:
                state, told = within_seconds(run, state, back[:60], [])
                self.assertEqual(told, ())
                back = back[60:]
            self.assertEqual(state, start)

    def test_looks(self):
        source = random.Random(61)
        for _ in range(5):
            start = ten_wires(source)
            looks = some_looks(source, 10, 60)
            state, told = within_seconds(run, start, [("look", look) for look in looks], [1, 0] * 30)
            self.assertEqual(state.look(looks[-1]), ("sure", told[-1]))
            for look in looks[:20]:
                answer = within_seconds(state.look, look)
                kept = [other for other in state.looks() if together(other, look)]
                self.assertEqual(answer[0] == "sure", len(kept) == 10)
                for bit, behind in enumerate(answer[1:] if answer[0] == "free" else ()):
                    self.assertEqual(behind.look(look), ("sure", bit))
                    self.assertTrue(all(behind.look(other) == ("sure", 0) for other in kept))

    def test_ifs(self):
        source = random.Random(62)
        script = []
        for index, look in enumerate(some_looks(source, 10, 30)):
            script += [("look", look), ("if", index, look)]
        self.assertEqual(len(within_seconds(run, ten_wires(source), script, [1] * 60)[1]), 30)


def large_pairs():
    """Ten pairs that go together."""
    source = random.Random(11)
    for _ in range(4):
        yield source, [look[1:] for look in ten_wires(source).looks()]


def large_kept():
    for source, pairs in large_pairs():
        for number in (0, 1, 4, 6, 8, 10):
            yield source, Kept(10, pairs[:number])


class TestKept(unittest.TestCase):

    def test_parts(self):
        for source, kept in large_kept():
            for number in (0, 1, 2, 4, 5, 9, 10):
                part = some_lot(source, TEN, number)
                rest = without(TEN, part)
                both = within_seconds(gain, kept, part) + within_seconds(gain, kept, rest)
                self.assertEqual(both, 2 * kept.kept)
                deed = within_seconds(mends, kept, part)
                self.assertEqual(deed is None, gain(kept, part) == 0)
                if kept.kept == 0:
                    self.assertEqual(within_seconds(between, kept, part), between(kept, rest))

    def test_weakest_wires(self):
        for source, kept in large_kept():
            number = within_seconds(weakest_wires, kept)
            if kept.kept == 0:
                self.assertIsNone(number)
            else:
                self.assertTrue(any(mends(kept, fall) for fall in combinations(TEN, number)))
                self.assertFalse(any(mends(kept, fall) for fall in combinations(TEN, number - 1)))

    def test_moved_off(self):
        moved = 0
        for source, pairs in large_pairs():
            for number in (0, 3, 6, 9, 10):
                kept = Kept(10, pairs[:number])
                book = Book(20, [flat(pair, 10) for pair in pairs[:number]])
                for fall in [some_lot(source, TEN, many) for many in (0, 1, 2, 3, 4)]:
                    if mends(kept, fall) is None:
                        # All of these go together with all looks.
                        deed = pair_of(total(source.sample([flat(pair, 10) for pair in pairs], 5)), 10)
                        found = within_seconds(moved_off, kept, fall, deed)
                        self.assertFalse(set(found[0] + found[1]) & set(fall))
                        self.assertTrue(book.holds(add(flat(found, 10), flat(deed, 10))))
                        moved += 1
        self.assertGreater(moved, 40)

    def test_from_books(self):
        source = random.Random(12)
        for dim in (1, 3, 5):
            flips = Book(10, [some_lot(source, TEN, 4) for _ in range(dim)])
            kept = within_seconds(from_books, flips, flips.turned())
            self.assertEqual((kept.wires, kept.kept), (10, 0))
            less = Book(10, flips.checks()[:2])
            self.assertEqual(within_seconds(from_books, flips, less).kept, 10 - flips.dim - less.dim)


def large_calls(blocks, hearers):
    source = random.Random(blocks)
    for weights in ((1, 1, 1, 1), (5, 2, 1, 2), (1, 8, 0, 0), (0, 1, 0, 0), (9, 1, 0, 0), (2, 1, 3, 3)):
        for _ in range(3):
            made = []
            for _ in range(hearers):
                kinds = source.choices(range(4), weights, k=blocks)
                made.append(tuple(tuple(k for k in range(blocks) if kinds[k] == kind) for kind in range(3)))
            yield source, Call(blocks, tuple(made))


class TestCalls(unittest.TestCase):

    def test_serve(self):
        kinds = []
        for source, call in large_calls(12, 12):
            for number in (0, 6, 24):
                sums = [some_lot(source, TWELVE, source.randrange(1, 5)) for _ in range(number)]
                fault = within_seconds(serve_fault, call, sums)
                kinds.append(fault and fault[0])
                self.assertNotEqual(fault, ())
        self.assertTrue({"wants", "hidden"} <= set(kinds))

    def test_chains(self):
        lengths = []
        for source, call in large_calls(12, 12):
            chain = within_seconds(longest_chain, call)
            self.assertIsNone(within_seconds(chain_fault, call, chain))
            lengths.append(len(chain))
        self.assertEqual(max(lengths), 12)

    def test_fewest(self):
        found = []
        for source, call in large_calls(5, 12):
            answer = within_seconds(fewest, call)
            found.append(answer is not None)
            if answer is not None:
                self.assertIsNone(serve_fault(call, answer[1]))
                self.assertGreaterEqual(answer[0], len(longest_chain(call)))
        self.assertEqual(set(found), {True, False})


class TestNoise(unittest.TestCase):

    def test_surely(self):
        for source, book in large_books():
            for size in (1, 2, 4, 12):
                patterns = [some_lot(source, WHOLE, size) for _ in range(60)]
                found = within_seconds(surely, Noise(book, patterns))
                self.assertEqual(found is None, self.nothing_lost(book, patterns))
                if found is not None:
                    self.assertTrue(book.holds(found[2]))
                    self.assertTrue(set(found[2]) <= set(patterns[found[0]] + patterns[found[1]]))

    def nothing_lost(self, book, patterns):
        for one, other in list(combinations(patterns, 2)) + [(patterns[-1], patterns[-1])]:
            fallen = tuple(sorted(set(one + other)))
            disks = tuple(lot for lot in (fallen, without(WHOLE, fallen)) if lot)
            if lost(Store(book, disks), (0,)):
                return False
        return True

    def test_4096_words(self):
        source = random.Random(4096)
        for _ in range(3):
            book = Book(24, [(place,) + some_lot(source, WHOLE[12:], 6) for place in range(12)])
            noise = within_seconds(up_to, book, 1)
            self.assertEqual(len(within_seconds(words_of, noise, (), WHOLE)), 4096)
            number, word = within_seconds(greatest, book)
            self.assertTrue(book.holds(word))
            self.assertEqual(number, (min(len(other) for other in book.words()[1:]) - 1) // 2)
            for many in (0, 4, 9, 12):
                silent = some_lot(source, WHOLE, many)
                patterns = [some_lot(source, WHOLE, 3) for _ in range(60)]
                words = within_seconds(words_of, Noise(book, patterns), word, silent)
                self.assertIn(word, words)
                if len(words) <= 16:
                    self.check_asked(Noise(book, patterns), word, silent, words)

    def check_asked(self, noise, came, silent, words):
        number, lot = within_seconds(ask_again, noise, came, silent)
        self.assertEqual(number, len(lot))
        self.assertEqual(len({tuple(set(word) & set(lot)) for word in words}), len(words))

    def test_asking_again_among_sixteen_words(self):
        # Lots of 12 patterns stand for the words; what is put behind them tells pairs or more of them.
        source = random.Random(16)
        whole = Book(12, [(place,) for place in range(12)])
        self.assertEqual(ask_again(Noise(whole, [(place,) for place in range(12)]), (), ())[0], 12)
        for few in (1, 2, 3, 5):
            for _ in range(4):
                rows = [(place,) + some_lot(source, WHOLE[12:], few) for place in range(12)]
                book = Book(24, rows)
                patterns = [row for row in rows] + [add(*source.sample(rows, 2)) for _ in range(3)]
                words = words_of(Noise(book, patterns), (), ())
                if len(words) <= 16:
                    self.check_asked(Noise(book, patterns), (), (), words)


if __name__ == "__main__":
    unittest.main()
