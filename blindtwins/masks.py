"""Words and lots as integers, and rows of them.

In a mask the bit 1 << p stands for the place p. The sum of two words is then their `^`.
"""

# -1 has a one at every place.
ALL_PLACES = -1


def mask_of(lot):
    """The mask of a lot."""
    mask = 0
    for place in lot:
        mask |= 1 << place
    return mask


def lot_of(mask):
    """The lot of a mask."""
    return tuple([place for place in range(mask.bit_length()) if mask >> place & 1])


def lowest(mask):
    """The mask of the least place alone; 0 if there is none."""
    return mask & -mask


def odd(mask):
    """1 if the mask has an odd number of places, otherwise 0."""
    digits = f"{mask:b}"
    return digits.count("1") & 1


def picked(mask, places):
    """The mask whose bit k is the bit of the given mask at places[k]."""
    result = 0
    for number, place in enumerate(places):
        result |= (mask >> place & 1) << number
    return result


def bits_at(mask, wishes):
    """The mask whose bit k is the bit of the word at the mask wishes[k]."""
    result = 0
    for number, wish in enumerate(wishes):
        result |= odd(mask & wish) << number
    return result


def cleared(mask, rows, part):
    """The mask plus those rows that make it 0 at the first place of each row in the part.

    The first place in the part of each row stands in no other row.
    """
    for row in rows:
        if mask & lowest(row & part):
            mask ^= row
    return mask


def sweep(masks, part):
    """A pair of lists of rows (seen, hidden) that tell the same book as the masks.

    The first place in the part of each seen row stands in no other row, and the hidden rows
    are 0 on the part. So len(seen) is what the part sees, and the hidden rows tell all words
    that are 0 on it. If the masks are independent, all these rows are.
    """
    seen = []
    hidden = []
    for mask in masks:
        rest = cleared(mask, seen, part)
        low = lowest(rest & part)
        if low:
            seen = [row ^ rest if row & low else row for row in seen] + [rest]
        else:
            hidden.append(rest)
    return seen, hidden


def reduce_rows(masks):
    """The reduced rows, ascending by their least places, of the book that the masks tell."""
    seen, _ = sweep(masks, ALL_PLACES)
    return sorted(seen, key=lowest)


def check_rows(rows, size):
    """The reduced rows of the turned book of the book of these reduced rows."""
    checks = []
    for place in range(size):
        bit = 1 << place
        if not any([lowest(row) == bit for row in rows]):
            # A free place is the sum of the first places of the rows that have it.
            checks.append(bit | sum([lowest(row) for row in rows if row & bit]))
    return reduce_rows(checks)


def span(masks):
    """The sums of some of the masks, each choice of them once."""
    sums = [0]
    for mask in masks:
        sums = sums + [mask ^ other for other in sums]
    return sums
