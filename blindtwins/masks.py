"""Words and lots as integers, and rows of them.

In a mask the bit 1 << p stands for the place p. The sum of two words is then their `^`.
"""

# -1 has a one at every place.
ALL_PLACES = -1


def mask_of(lot):
    """The mask of a lot."""
    mask = 0
    for place in lot:
        mask |= 1 << place
    return mask


def lot_of(mask):
    """The lot of a mask."""
    return tuple([place for place in range(mask.bit_length()) if mask >> place & 1])


def first_places(count):
    """The mask of the places below the count."""
    return (1 << count) - 1


def lowest(mask):
    """The mask of the least place alone; 0 if there is none."""
    return mask & -mask


def ones(mask):
    """The number of places of the mask."""
    digits = f"{mask:b}"
    return digits.count("1")


def odd(mask):
    """1 if the mask has an odd number of places, otherwise 0."""
    digits = f"{mask:b}"
    return digits.count("1") & 1


def picked(mask, places):
    """The mask whose bit k is the bit of the given mask at places[k]."""
    result = 0
    for number, place in enumerate(places):
        result |= (mask >> place & 1) << number
    return result


def bits_at(mask, wishes):
    """The mask whose bit k is the bit of the word at the mask wishes[k]."""
    result = 0
    for number, wish in enumerate(wishes):
        result |= odd(mask & wish) << number
    return result


def with_bits(rows, wishes, size):
    """The rows of `size` places with their bits at the masks of the wishes put behind."""
    return [row | bits_at(row, wishes) << size for row in rows]


def cleared(mask, rows, part):
    """The mask plus those rows that make it 0 at the first place of each row in the part.

    The first place in the part of each row stands in no other row.
    """
    for row in rows:
        if mask & lowest(row & part):
            mask ^= row
    return mask


def sweep(masks, part):
    """A pair of lists of rows (seen, hidden) that tell the same book as the masks.

    The first place in the part of each seen row stands in no other row, and the hidden rows
    are 0 on the part. So len(seen) is what the part sees, and the hidden rows tell all words
    that are 0 on it. If the masks are independent, all these rows are.
    """
    seen = []
    hidden = []
    for mask in masks:
        rest = cleared(mask, seen, part)
        low = lowest(rest & part)
        if low:
            seen = [row ^ rest if row & low else row for row in seen] + [rest]
        else:
            hidden.append(rest)
    return seen, hidden


def unseen(masks, part):
    """Rows that tell the words that are 0 on the part; independent if the masks are."""
    _, hidden = sweep(masks, part)
    return hidden


def certificate(masks, part, wish):
    """("sum", places of the part that tell the wish) or ("twin", word), as masks."""
    seen, hidden = sweep(masks, part)
    for row in hidden:
        if odd(row & wish):
            return "twin", row
    # The first place of a seen row stands in no other row, so it turns the bit of this row alone.
    return "sum", sum([lowest(row & part) for row in seen if odd(row & wish)])


def reduce_rows(masks):
    """The reduced rows, ascending by their least places, of the book that the masks tell."""
    seen, _ = sweep(masks, ALL_PLACES)
    return sorted(seen, key=lowest)


def check_rows(rows, size):
    """The reduced rows of the turned book of the book of these reduced rows."""
    checks = []
    for place in range(size):
        bit = 1 << place
        if not any([lowest(row) == bit for row in rows]):
            # A free place is the sum of the first places of the rows that have it.
            checks.append(bit | sum([lowest(row) for row in rows if row & bit]))
    return reduce_rows(checks)


def span(masks):
    """The sums of some of the masks, each choice of them once."""
    sums = [0]
    for mask in masks:
        sums = sums + [mask ^ other for other in sums]
    return sums


def first_sum(rows):
    """The first lot, ascending, of all sums of one or more of these reduced rows, as a mask."""
    mask = rows[0]
    for row in rows[1:]:
        # A lot that ends goes first; if this one goes on, then best with the first place of the row.
        if mask > lowest(row):
            mask ^= row
    return mask


# A choice of some items is a mask, too: its bit k stands for the item k. A table of all choices is
# a list that has them as its indexes.


def costs_of(prices):
    """The table of the sums of the chosen prices."""
    costs = [0]
    for price in prices:
        costs = costs + [cost + price for cost in costs]
    return costs


def shadows(masks, parts):
    """The table of rows of the words that are 0 on all chosen parts."""
    table = [list(masks)]
    for part in parts:
        table = table + [unseen(hidden, part) for hidden in table]
    return table


def knowing(masks, parts, wish):
    """The table of flags: True if the chosen parts together know the wish."""
    return [not any([odd(row & wish) for row in hidden]) for hidden in shadows(masks, parts)]


def containing(choices, count):
    """The table of flags: True if the choice of `count` items contains one of these choices."""
    flags = [False] * (1 << count)
    for choice in choices:
        flags[choice] = True
    for number in range(count):
        bit = 1 << number
        for choice in range(1 << count):
            if choice & bit and flags[choice ^ bit]:
                flags[choice] = True
    return flags


def blocking(flags):
    """The table of flags: True if the items that are not chosen have the flag False."""
    # The choice of all other items has the same index, counted from the end.
    return [not flag for flag in flags[::-1]]


def least_chosen(flags, items):
    """The ascending list of the items, as tuples, of the choices that are True and no lesser one is.

    What contains a choice that is True is to be True, too.
    """
    bits = [1 << number for number in range(len(items))]
    found = []
    for choice, flag in enumerate(flags):
        if flag and not any([choice & bit and flags[choice ^ bit] for bit in bits]):
            found.append(tuple([items[number] for number in lot_of(choice)]))
    return sorted(found)
