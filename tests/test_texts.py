"""Point 46: the examples, texts read back, each way in which a line can be wrong, and wrong inputs."""

import random
import unittest

from blindtwins.books import Book
from blindtwins.errors import BadLog, BadText
from blindtwins.logs import count_fit
from blindtwins.texts import book_text, log_text, read_book, read_log

from tests import plain
from tests.test_large import WHOLE, large_books, some_lot, within_seconds
from tests.test_logs import no_items
from tests.values import ErrorCase, all_kinds, no_lists

# A digit of another script, a raised one, and other things that are not the digit or the blank meant.
STRANGE = ["\u0661", "\u00b9", "\uff11", "\u00bd", "\u2460", "\u00a01", "\t1",
           "+1", "-1", "1.", "1_0", "0x1", "1e0", ""]


class TestExamples(ErrorCase):

    def test_of_the_document(self):
        book = Book(3, [(0, 1), (0, 2)])
        self.assertEqual(book_text(book), "book 3 2\n101\n011")
        self.assertEqual(log_text(book, [((0, 2), 1), ((), None)]), "0 2 1\n. ?")

    def test_by_name(self):
        book = Book(3, [(0, 1), (0, 2)])
        self.assertEqual(book_text(book=book), "book 3 2\n101\n011")
        self.assertEqual(read_book(text="book 3 2\n101\n011"), book)
        self.assertEqual(log_text(log=[((), 0)], book=book), ". 0")
        self.assertEqual(read_log(text="0 2 1\n. ?", book=book), [((0, 2), 1), ((), None)])


class TestBooks(ErrorCase):

    def test_read_back(self):
        for size in (1, 2, 3, 4):
            for rows, _ in plain.all_books(size):
                book = Book(size, rows)
                text = book_text(book)
                self.assertEqual(read_book(text), book)
                self.assertEqual(text.split("\n")[0], f"book {size} {book.dim}")
                lines = ["".join(str(plain.bit(row, (k,))) for k in range(size)) for row in book.rows()]
                self.assertEqual(text.split("\n")[1:], lines)

    def test_large_books(self):
        for _, book in large_books():
            text = within_seconds(book_text, book)
            self.assertEqual(within_seconds(read_book, text), book)

    def test_sizes_and_dims(self):
        self.assertEqual(read_book("book 1 0"), Book(1, []))
        self.assertEqual(read_book("book 1 1\n1"), Book(1, [(0,)]))
        self.assertEqual(read_book("book 24 0"), Book(24, []))
        self.assertEqual(read_book("book 24 1\n" + "1" * 24), Book(24, [WHOLE]))

    def test_no_strings(self):
        for value in all_kinds():
            if not isinstance(value, str):
                self.fails(BadText, 0, read_book, value)
        self.fails(BadText, 0, read_book, b"book 1 0")

    def test_wrong_first_lines(self):
        wrong = ["", "book", "book 3", "book 3 2 1", "book  3 0", " book 3 0", "book 3 0 ", "book 3  0", "Book 3 0"]
        wrong += ["books 3 0", "3 0", "book 03 0", "book 3 00", "book 0 0", "book 25 0", "book 3 4", "book 3 -1"]
        wrong += ["book 3\t0", "book 3 0\r", "book 3 0\x0b", "book +3 0", "book 3.0 0", "book 3 0\u2028"]
        wrong += ["\ufeffbook 3 0"]
        wrong += [f"book {word} 1\n1" for word in STRANGE] + [f"book 1 {word}\n1" for word in STRANGE]
        wrong += ["book 1" + "0" * 5000 + " 0", "book 3 " + "9" * 5000, "x" * 100000]
        for line in wrong:
            self.fails(BadText, 1, read_book, line)
            self.fails(BadText, 1, read_book, line + "\n111\n\n")
        for value in all_kinds():
            if isinstance(value, str):
                self.fails(BadText, 1, read_book, value)

    def test_wrong_rows(self):
        for line in ("", "10", "1010", "000", "1 1", "101 ", " 101", "1o1", "102", "1\u06610", "\uff111\uff10"):
            self.fails(BadText, 2, read_book, f"book 3 1\n{line}")
            self.fails(BadText, 3, read_book, f"book 3 2\n100\n{line}")
            self.fails(BadText, 3, read_book, f"book 3 3\n100\n{line}")

    def test_rows_that_are_not_reduced(self):
        # The first one behind, at the first one, a one at the first one of a row ahead, and the other way round.
        for rows, line in ((["010", "100"], 3), (["010", "101"], 3), (["100", "101"], 3), (["110", "100"], 3),
                           (["110", "010"], 3), (["001", "010"], 3), (["100", "011", "001"], 4),
                           (["101", "010", "001"], 4), (["100", "010", "010"], 4), (["000", "010"], 2)):
            text = "\n".join([f"book 3 {len(rows)}"] + rows)
            self.fails(BadText, line, read_book, text)
            self.fails(BadText, line, read_book, text + "\n")

    def test_more_lines_and_fewer(self):
        self.fails(BadText, 2, read_book, "book 3 0\n")
        self.fails(BadText, 2, read_book, "book 3 0\n111")
        self.fails(BadText, 4, read_book, "book 3 2\n101\n011\n")
        self.fails(BadText, 4, read_book, "book 3 2\n101\n011\n\n\n")
        self.fails(BadText, 2, read_book, "book 3 2")
        self.fails(BadText, 3, read_book, "book 3 2\n101")
        self.fails(BadText, 24, read_book, book_text(Book(24, [(place,) for place in WHOLE])).rsplit("\n", 2)[0])
        # A wrong line goes ahead of those that are missing.
        self.fails(BadText, 2, read_book, "book 3 2\n")
        self.fails(BadText, 3, read_book, "book 3 3\n101\n")

    def test_all_short_texts(self):
        # Of all pairs of lines of bits just the texts of books are read.
        texts = {book_text(Book(2, rows)) for rows, _ in plain.all_books(2)}
        lines = ["00", "01", "10", "11", "", "1", "111"]
        every = [f"book 2 {dim}" for dim in range(3)]
        every += [f"{text}\n{line}" for text in every[:3] for line in lines]
        every += [f"{text}\n{line}" for text in every[3:] for line in lines]
        read = []
        for text in every:
            try:
                read.append(book_text(read_book(text)))
                self.assertEqual(read[-1], text)
            except BadText:
                self.assertNotIn(text, texts)
        self.assertEqual(set(read), texts)


class TestLogs(ErrorCase):

    def book(self):
        return Book(12, [(0, 1), (10, 11)])

    def test_texts(self):
        log = [((10, 11), 0), ((3,), None), ((), 1), ((0, 1, 2), 1)]
        self.assertEqual(log_text(self.book(), log), "10 11 0\n3 ?\n. 1\n0 1 2 1")
        self.assertEqual(log_text(self.book(), []), "-")
        self.assertEqual(read_log(self.book(), "-"), [])

    def test_read_back(self):
        source = random.Random(46)
        for _, book in large_books():
            for number in (0, 1, 2, 7, 60):
                log = [(some_lot(source, WHOLE, source.choice((0, 1, 2, 5, 24))), source.choice((0, 1, None)))
                       for _ in range(number)]
                text = within_seconds(log_text, book, log)
                self.assertEqual(within_seconds(read_log, book, text), log)
                self.assertEqual(count_fit(book, read_log(book, text)), count_fit(book, log))
        for size in (1, 2, 3):
            for lot in plain.all_lots(size):
                for bit in (0, 1, None):
                    book = Book(size, [])
                    self.assertEqual(read_log(book, log_text(book, [(lot, bit)])), [(lot, bit)])

    def test_wrong_logs(self):
        for value in no_lists() + [[((0,), 1)] * 61]:
            self.fails(BadLog, -1, log_text, self.book(), value)
        for item in no_items(12):
            self.fails(BadLog, 1, log_text, self.book(), [((0,), 1), item])

    def test_no_strings(self):
        for value in all_kinds():
            if not isinstance(value, str):
                self.fails(BadText, 0, read_log, self.book(), value)

    def test_wrong_lines(self):
        wrong = ["", "-", "0", "?", ".", " 1", "0  1", "0 1 ", " 0 1", "0\t1", "12 1", "01 1", "-1 1", "1 0 1", "1 1 0"]
        wrong += [". . 1", ". 0 1", "0 . 1", ".1", "0 2", "0 x", "0 None", "0 01", "0 ??", ". 0\r", "0,1 1", "- 1"]
        wrong += ["(0,) 1"]
        wrong += [f"{word} 1" for word in STRANGE if word != "1."] + [f"0 {word}" for word in STRANGE]
        wrong += ["9" * 5000 + " 1", "0 " + "1" * 5000]
        for line in wrong:
            if line != "-":
                self.fails(BadText, 1, read_log, self.book(), line)
            self.fails(BadText, 1, read_log, self.book(), line + "\n0 1")
            self.fails(BadText, 3, read_log, self.book(), f"0 1\n. ?\n{line}")
            self.fails(BadText, 2, read_log, self.book(), f"0 1\n{line}\nx")
        for value in all_kinds():
            if isinstance(value, str):
                self.fails(BadText, 1, read_log, self.book(), value)

    def test_a_line_feed_at_the_end(self):
        self.fails(BadText, 2, read_log, self.book(), "0 1\n")
        self.fails(BadText, 1, read_log, self.book(), "-\n")
        self.fails(BadText, 1, read_log, self.book(), "\n")

    def test_lots_of_the_size_of_the_book(self):
        self.assertEqual(read_log(Book(1, []), "0 1"), [((0,), 1)])
        self.fails(BadText, 1, read_log, Book(1, []), "1 1")
        self.fails(BadText, 1, read_log, Book(1, []), "0 1 1")
        self.assertEqual(read_log(Book(24, []), "23 ?"), [((23,), None)])
        self.fails(BadText, 1, read_log, Book(24, []), "24 ?")

    def test_60_lines_and_61(self):
        text = "\n".join(["0 1"] * 60)
        self.assertEqual(read_log(self.book(), text), [((0,), 1)] * 60)
        self.fails(BadText, 61, read_log, self.book(), text + "\n0 1")
        self.fails(BadText, 61, read_log, self.book(), text + "\n")
        self.fails(BadText, 61, read_log, self.book(), text + "\n0 1" * 1000 + "\nx")
        self.fails(BadText, 60, read_log, self.book(), "\n".join(["0 1"] * 59 + ["x", "x"]))

    def test_new_lists(self):
        log = [((0,), 1)]
        log_text(self.book(), log)
        self.assertEqual(log, [((0,), 1)])
        read_log(self.book(), "-").append(5)
        self.assertEqual(read_log(self.book(), "-"), [])


if __name__ == "__main__":
    unittest.main()
