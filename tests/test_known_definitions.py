"""Points 12 to 15 against the definitions themselves, over all small books, parts and wishes."""

import unittest

from blindtwins.books import Book
from blindtwins.known import fillings, hide, knows, knows_fault, least_more, left, same_known, see

from tests import plain


def small_books(greatest=4):
    """(size, words, book) for all books of 1 to `greatest` places."""
    for size in range(1, greatest + 1):
        for rows, words in plain.all_books(size):
            yield size, words, Book(size, rows)


def expected_fault(size, words, part, wish, answer):
    """The fault that point 13 tells, for an answer of the right form."""
    kind, lot = answer
    if kind == "sum":
        outside = [place for place in lot if place not in part]
        if outside:
            return "part", outside[0]
        rows = [row for row in Book(size, sorted(words)).rows() if plain.bit(row, plain.add(lot, wish))]
        return ("check", rows[0]) if rows else None
    checks = [check for check in Book(size, sorted(words)).checks() if plain.bit(check, lot)]
    if checks:
        return "word", checks[0]
    if plain.cut(lot, part):
        return "seen", plain.cut(lot, part)[0]
    return None if plain.bit(lot, wish) else ("even",)


class TestSeeAndHide(unittest.TestCase):

    def test_against_the_definitions(self):
        for size, words, book in small_books():
            for part in plain.all_lots(size):
                shown = {plain.cut(word, part) for word in words}
                hidden = plain.zero_on(words, part)
                self.assertEqual(see(book, part), plain.logarithm(len(shown)))
                self.assertEqual(hide(book, part), plain.logarithm(len(hidden)))

    def test_facts(self):
        for size, words, book in small_books():
            for part in plain.all_lots(size):
                rest = tuple(place for place in range(size) if place not in part)
                self.assertEqual(see(book, part) + hide(book, part), book.dim)
                checks = book.turned().within(part)
                self.assertEqual(see(book, part), len(part) - checks.dim)
                self.assertEqual(see(book.turned(), rest) + hide(book, part), len(rest))

    def test_common_and_joint_places(self):
        for size, words, book in small_books():
            for one in plain.all_lots(size):
                for other in plain.all_lots(size):
                    both = tuple(sorted(set(one) & set(other)))
                    either = tuple(sorted(set(one) | set(other)))
                    most = see(book, one) + see(book, other)
                    self.assertLessEqual(see(book, both) + see(book, either), most)


class TestKnows(unittest.TestCase):

    def test_exactly_one_of_both(self):
        for size, words, book in small_books():
            for part in plain.all_lots(size):
                known = plain.known_lots(size, words, part)
                hidden = plain.zero_on(words, part)
                for wish in plain.all_lots(size):
                    kind, lot = knows(book, part, wish)
                    if wish in known:
                        self.assertEqual((kind, plain.cut(lot, part)), ("sum", lot))
                        change = plain.add(lot, wish)
                        self.assertTrue(all(plain.bit(word, change) == 0 for word in words))
                    else:
                        self.assertEqual(kind, "twin")
                        self.assertIn(lot, hidden)
                        self.assertEqual(plain.bit(lot, wish), 1)
                    self.assertIsNone(knows_fault(book, part, wish, (kind, lot)))

    def test_faults_of_all_answers(self):
        for size, words, book in small_books(3):
            answers = [(kind, lot) for kind in ("sum", "twin") for lot in plain.all_lots(size)]
            for part in plain.all_lots(size):
                for wish in plain.all_lots(size):
                    for answer in answers:
                        expected = expected_fault(size, words, part, wish, answer)
                        self.assertEqual(knows_fault(book, part, wish, answer), expected)

    def test_faults_of_some_answers_of_four_places(self):
        for size, words, book in small_books():
            for part in plain.all_lots(size):
                wish = plain.all_lots(size)[-2]
                for kind in ("sum", "twin"):
                    for lot in plain.all_lots(size):
                        expected = expected_fault(size, words, part, wish, (kind, lot))
                        self.assertEqual(knows_fault(book, part, wish, (kind, lot)), expected)


def some_wishes(size):
    """Lists of wishes: none, the empty lot, lots that come twice, sums of others, all places."""
    lots = plain.all_lots(size)
    lists = [[], [()], [lots[-1], lots[-1]], [lots[-1], (), lots[1]], lots[1:4][::-1]]
    return lists + [[(place,) for place in range(size)], lots[-4:]]


class TestLeftAndFillings(unittest.TestCase):

    def test_left(self):
        for size, words, book in small_books():
            for part in plain.all_lots(size):
                known = plain.known_lots(size, words, part)
                for wishes in some_wishes(size):
                    expected = plain.lacking(wishes, known)
                    self.assertEqual(left(book, wishes, part), expected)

    def test_fillings(self):
        for size, words, book in small_books():
            for part in plain.all_lots(size):
                for wishes in some_wishes(size):
                    for word in sorted(words)[::3]:
                        self.check_fillings(book, wishes, part, word, words)

    def check_fillings(self, book, wishes, part, word, words):
        shown = plain.cut(word, part)
        alike = [other for other in words if plain.cut(other, part) == shown]
        rows = [tuple(plain.bit(other, wish) for wish in wishes) for other in alike]
        found = fillings(book, wishes, part, word)
        self.assertEqual(found, sorted(set(rows)))
        # The fact of point 14: 2 ** left rows of bits, each equally often.
        self.assertEqual(len(found), 2 ** left(book, wishes, part))
        self.assertEqual({rows.count(row) for row in rows}, {len(rows) // len(found)})


class TestLeastMore(unittest.TestCase):

    def test_against_all_lots_of_offered_places(self):
        for size, words, book in small_books():
            for part in plain.all_lots(size)[::2]:
                for wish in plain.all_lots(size)[::3]:
                    for prices in self.some_prices(size):
                        self.check_least(size, words, book, part, wish, prices)

    def some_prices(self, size):
        rising = {place: place + 1 for place in range(size)}
        falling = {place: 7 - 2 * place for place in range(size)}
        return [{}, rising, falling, {0: 0}, {size - 1: 5, 0: 10 ** 30}]

    def check_least(self, size, words, book, part, wish, prices):
        enough = []
        for more in plain.parts_of(tuple(sorted(prices))):
            both = tuple(sorted(set(part) | set(more)))
            if all(plain.bit(word, wish) == 0 for word in plain.zero_on(words, both)):
                enough.append((sum(prices[place] for place in more), more))
        found = least_more(book, part, wish, prices)
        if not enough:
            self.assertIsNone(found)
        else:
            self.assertEqual(found[0], min(enough)[0])
            self.assertIn(found, enough)


class TestSameKnown(unittest.TestCase):

    def test_against_the_known_lots(self):
        for size, words, book in small_books():
            known = {part: plain.known_lots(size, words, part) for part in plain.all_lots(size)}
            for one in plain.all_lots(size):
                for other in plain.all_lots(size):
                    found = same_known(book, one, other)
                    self.assertEqual(found is None, known[one] == known[other])
                    if found is not None:
                        self.check_word(words, one, other, found)

    def check_word(self, words, one, other, found):
        first = plain.zero_on(words, one) - plain.zero_on(words, other)
        second = plain.zero_on(words, other) - plain.zero_on(words, one)
        if first:
            self.assertEqual(found[0], "first")
            self.assertIn(found[1], first)
        else:
            self.assertEqual(found[0], "second")
            self.assertIn(found[1], second)


if __name__ == "__main__":
    unittest.main()
