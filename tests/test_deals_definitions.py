"""Points 25 to 28 against the definitions themselves: all groups, answers and lots of small deals."""

import random
import unittest
from itertools import combinations, product

from blindtwins.books import Book
from blindtwins.deals import Deal

from tests import plain


class Small:
    """A deal, told by its words, with the definitions word by word."""

    def __init__(self, size, words, hands, secrets, told):
        self.size = size
        self.words = words
        self.hands = hands
        self.secrets = secrets
        self.told = told
        self.lots = plain.all_lots(size)
        self.deal = Deal(Book(size, sorted(words)[:60]), hands, secrets)
        for lot in told:
            self.deal = self.deal.say(lot)
        self.checks = plain.checks(size, words)
        self.groups = [group for group in plain.parts_of(tuple(sorted(hands)))]
        self.known = {group: self.known_by(group) for group in self.groups}
        self.hidden = {group: self.hidden_from(group) for group in self.groups}

    def places(self, group):
        return plain.union(self.hands[name] for name in group)

    def known_by(self, group):
        sums = plain.sums([(place,) for place in self.places(group)] + list(self.told))
        return frozenset(plain.add(lot, check) for lot in sums for check in self.checks)

    def hidden_from(self, group):
        shown = [(place,) for place in self.places(group)] + list(self.told)
        return [word for word in self.words if not any(plain.bit(word, lot) for lot in shown)]

    def agree_on(self, hands):
        """The lots that each of these hands knows alone."""
        return [lot for lot in self.lots if all(lot in self.known[(name,)] for name in hands)]


def some_small(source, size, words):
    lots = plain.all_lots(size)
    hands = {name: source.choice(lots) for name in source.sample("abcd", source.randrange(1, 4))}
    secrets = {name: source.choice(lots) for name in source.sample("stuv", source.randrange(1, 4))}
    return Small(size, words, hands, secrets, [source.choice(lots) for _ in range(source.randrange(3))])


def small_deals():
    source = random.Random(24)
    for size in (1, 2, 3):
        for _, words in plain.all_books(size):
            for _ in range(6):
                yield some_small(source, size, words)
    for _, words in plain.all_books(4):
        yield some_small(source, 4, words)
    for _ in range(12):
        rows = source.sample(plain.all_lots(5), source.randrange(1, 5))
        yield some_small(source, 5, plain.sums(rows))


def shuffled(source, group):
    return source.sample(group, len(group))


class TestKnows(unittest.TestCase):

    def test_against_the_definitions(self):
        kinds = []
        for small in small_deals():
            for group in small.groups:
                for secret, wish in small.secrets.items():
                    answer = small.deal.knows(list(group[::-1]), secret)
                    kinds.append(answer[0])
                    self.assertEqual(answer[0] == "sum", wish in small.known[group])
                    self.assertIsNone(self.fault(small, group, wish, answer))
                    self.assertIsNone(small.deal.knows_fault(list(group), secret, answer))
        self.assertGreater(min(kinds.count("sum"), kinds.count("twin")), 100)

    def test_faults_of_all_answers(self):
        for small in small_deals():
            answers = [("twin", word) for word in small.lots]
            told = plain.all_lots(len(small.told))
            answers += [("sum", lot, indexes) for lot in small.lots for indexes in told]
            for group in small.groups:
                for secret, wish in list(small.secrets.items())[:2]:
                    for answer in answers:
                        expected = self.fault(small, group, wish, answer)
                        found = small.deal.knows_fault(list(group), secret, answer)
                        self.assertEqual(found, expected)

    def fault(self, small, group, wish, answer):
        """The fault that point 25 tells, for an answer of the right form."""
        places = small.places(group)
        if answer[0] == "sum":
            outside = plain.without(answer[1], places)
            if outside:
                return "part", outside[0]
            lots = [answer[1], wish] + [small.told[index] for index in answer[2]]
            return None if plain.add_all(lots) in small.checks else ("check",)
        if answer[1] not in small.words:
            return ("word",)
        if plain.cut(answer[1], places):
            return "seen", plain.cut(answer[1], places)[0]
        told = [index for index, lot in enumerate(small.told) if plain.bit(answer[1], lot)]
        if told:
            return "told", told[0]
        return None if plain.bit(answer[1], wish) else ("even",)

    def test_left(self):
        for small in small_deals():
            names = sorted(small.secrets)
            for group in small.groups:
                for some in [names, names[:1], names + names[:1], names[1:]]:
                    wishes = [small.secrets[name] for name in some]
                    expected = plain.lacking(wishes, small.known[group])
                    self.assertEqual(small.deal.left(list(group), some), expected)


class TestLeastGroups(unittest.TestCase):

    def test_against_all_groups(self):
        for small in small_deals():
            everybody = tuple(sorted(small.hands))
            for secret, wish in small.secrets.items():
                knowing = [group for group in small.groups if wish in small.known[group]]
                blinding = [group for group in small.groups if plain.without(everybody, group) not in knowing]
                self.assertEqual(small.deal.least_groups(secret), plain.least(knowing))
                self.assertEqual(small.deal.least_blinding(secret), plain.least(blinding))


class TestAltered(unittest.TestCase):

    def test_leave_and_hand_over(self):
        for small in small_deals():
            for name in small.hands:
                for other in small.hands:
                    if name != other:
                        rest = {hand: lot for hand, lot in small.hands.items() if hand != name}
                        self.check(small, small.deal.leave(name), rest)
                        both = {**rest, other: plain.union([small.hands[name], small.hands[other]])}
                        self.check(small, small.deal.hand_over(name, other), both)

    def check(self, small, deal, hands):
        expected = Deal(small.deal.book, hands, small.secrets)
        for lot in small.told:
            expected = expected.say(lot)
        self.assertEqual(deal, expected)
        self.assertEqual((deal.hands, deal.secrets, deal.told), (hands, small.secrets, tuple(small.told)))


class TestAgreed(unittest.TestCase):

    def test_against_the_definitions(self):
        source = random.Random(28)
        numbers = []
        for small in small_deals():
            for hands, listeners in product(small.groups[1:], small.groups):
                hands, listeners = shuffled(source, hands), shuffled(source, listeners)
                lots = small.deal.agreed_lots(hands, listeners)
                number = small.deal.agreed(hands, listeners)
                self.assertEqual(len(lots), number)
                self.assertIsNone(small.deal.agreed_fault(hands, listeners, lots))
                known = small.known[tuple(sorted(listeners))]
                common = small.agree_on(hands)
                heard = [lot for lot in common if lot in known]
                self.assertEqual(len(common), len(heard) << number)
                if small.size <= 3:
                    self.assertEqual(number, self.greatest(common, known, small.size))
                numbers.append(number)
        self.assertGreater(min(numbers.count(0), numbers.count(1), numbers.count(2)), 20)

    def greatest(self, common, known, size):
        """The greatest number of common lots no sum of which is known, by trying all lists of them."""
        for number in range(size, 0, -1):
            for some in combinations(common, number):
                if plain.lacking(list(some), known) == number:
                    return number
        return 0

    def test_faults(self):
        source = random.Random(29)
        kinds = []
        for small in small_deals():
            for hands, listeners in product(small.groups[1:], small.groups):
                for number in (0, 1, 2, 3, 4, 5):
                    fitting = source.choices(small.agree_on(hands), k=number)
                    for lots in (source.choices(small.lots, k=number), fitting):
                        names = shuffled(source, hands)
                        expected = self.fault(small, names, listeners, lots)
                        self.assertEqual(small.deal.agreed_fault(names, list(listeners), lots), expected)
                        kinds.append(expected and (expected[0], len(expected[1]) if expected[0] == "heard" else 0))
        for kind in (None, ("unknown", 0), ("heard", 1), ("heard", 2), ("heard", 3)):
            self.assertGreater(kinds.count(kind), 20)

    def test_the_first_sum_that_is_heard(self):
        source = random.Random(30)
        lengths = []
        for number in range(2, 10):
            for _ in range(12):
                words = plain.sums([(place,) for place in range(6)][:source.randrange(3, 7)])
                small = Small(6, words, {"a": tuple(range(6)), "b": (0,)}, {"s": ()}, [(1, 2), (3, 4, 5)])
                lots = source.choices(small.lots[1:], k=number)
                for listeners in ((), ("b",)):
                    expected = self.fault(small, ["a"], listeners, lots)
                    self.assertEqual(small.deal.agreed_fault(["a"], list(listeners), lots), expected)
                    lengths.append(len(expected[1]) if expected else 0)
        self.assertGreaterEqual(max(lengths), 5)

    def fault(self, small, hands, listeners, lots):
        for index, lot in enumerate(lots):
            for name in hands:
                if lot not in small.known[(name,)]:
                    return "unknown", index, name
        heard = []
        for indexes in plain.all_lots(len(lots))[1:]:
            if plain.add_all([lots[index] for index in indexes]) in small.known[listeners]:
                heard.append(indexes)
        return ("heard", min(heard)) if heard else None

    def test_the_fact(self):
        # To the listeners the agreed lots' bits are all rows of bits, equally often.
        for small in small_deals():
            for hands, listeners in product(small.groups[1:], small.groups):
                lots = small.deal.agreed_lots(list(hands), list(listeners))
                rows = [tuple(plain.bit(word, lot) for lot in lots) for word in small.hidden[listeners]]
                self.assertEqual(len(set(rows)), 2 ** len(lots))
                self.assertEqual({rows.count(row) for row in rows}, {len(rows) >> len(lots)})


if __name__ == "__main__":
    unittest.main()
