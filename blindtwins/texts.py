"""Texts of books and logs, and books and logs out of texts."""

from blindtwins.books import MOST_SIZE, Book
from blindtwins.errors import BadText
from blindtwins.logs import MOST_ITEMS, need_log
from blindtwins.lots import is_lot

NO_PLACES = "."
NO_ITEMS = "-"
SIGNS = ("0", "1", "?")


def book_text(book):
    """The text of the book: a first line, and a line for each reduced row."""
    lines = [f"book {book.size} {book.dim}"]
    for row in book.rows():
        lines.append("".join([str(int(place in row)) for place in range(book.size)]))
    return "\n".join(lines)


def read_book(text):
    """The book whose text it is."""
    lines = _lines_of(text)
    size, dim = _read_head(lines[0])
    rows = []
    for number in range(2, dim + 2):
        if number > len(lines):
            raise BadText(number)
        row = _places_of_ones(lines[number - 1], size)
        if row is None or not _is_next(row, rows):
            raise BadText(number)
        rows.append(row)
    if len(lines) > dim + 1:
        raise BadText(dim + 2)
    return Book(size, rows)


def log_text(book, log):
    """The text of the log: a line for each item."""
    need_log(log, book.size)
    if not log:
        return NO_ITEMS
    return "\n".join([_item_text(lot, bit) for lot, bit in log])


def read_log(book, text):
    """The log of the book whose text it is."""
    lines = _lines_of(text)
    if text == NO_ITEMS:
        return []
    log = []
    for number, line in enumerate(lines, start=1):
        item = _read_item(line, book.size)
        if item is None or number > MOST_ITEMS:
            raise BadText(number)
        log.append(item)
    return log


def _lines_of(text):
    """The lines of the text."""
    if not isinstance(text, str):
        raise BadText(0)
    return text.split("\n")


def _numerals(least, most):
    """The integers from the least to the most, as they are written in texts."""
    return [str(number) for number in range(least, most + 1)]


def _read_head(line):
    """(size, dim) out of the first line of a book."""
    words = line.split(" ")
    if len(words) != 3 or words[0] != "book" or words[1] not in _numerals(1, MOST_SIZE):
        raise BadText(1)
    size = int(words[1])
    if words[2] not in _numerals(0, size):
        raise BadText(1)
    return size, int(words[2])


def _places_of_ones(line, size):
    """The lot of the places of the ones in a line of so many bits; None if it is no such line."""
    if len(line) != size or not all([sign in ("0", "1") for sign in line]):
        return None
    return tuple([place for place in range(size) if line[place] == "1"])


def _is_next(row, rows):
    """True if a book can have this reduced row next behind these ones."""
    if len(row) == 0:
        return False
    for other in rows:
        if row[0] <= other[0] or other[0] in row or row[0] in other:
            return False
    return True


def _item_text(lot, bit):
    """The line of an item of a log."""
    places = " ".join([str(place) for place in lot]) if lot else NO_PLACES
    sign = "?" if bit is None else str(bit)
    return f"{places} {sign}"


def _read_item(line, size):
    """The item of a log out of its line; None if it is no such line."""
    words = line.split(" ")
    sign = words.pop()
    if sign not in SIGNS:
        return None
    bit = None if sign == "?" else int(sign)
    if words == [NO_PLACES]:
        return (), bit
    numerals = _numerals(0, size - 1)
    if not words or not all([word in numerals for word in words]):
        return None
    lot = tuple([int(word) for word in words])
    if not is_lot(lot, size):
        return None
    return lot, bit
