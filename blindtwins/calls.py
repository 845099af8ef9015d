"""Calls: sums of blocks that all hearers hear, who have some blocks already; and chains of wants."""

from blindtwins.errors import BadHearers, BadSize, TooMany
from blindtwins.lots import is_below, is_between, is_lot, need_lots
from blindtwins.masks import check_rows, first_sum, lot_of, mask_of, ones, reduce_rows, unseen

MOST_BLOCKS = 12
MOST_HEARERS = 12
MOST_SUMS = 24
MOST_SEARCHED = 5


class Call:
    """Blocks, and hearers: tuples (has, wants, hidden) of lots of blocks."""

    def __init__(self, blocks, hearers):
        if not is_between(blocks, 1, MOST_BLOCKS):
            raise BadSize(blocks)
        if not isinstance(hearers, tuple) or not 1 <= len(hearers) <= MOST_HEARERS:
            raise BadHearers(-1)
        for index, hearer in enumerate(hearers):
            if not _is_hearer(hearer, blocks):
                raise BadHearers(index)
        self.blocks = blocks
        self.hearers = hearers


def _is_hearer(value, blocks):
    """True if the value is a tuple of three lots of blocks without a common block."""
    if not isinstance(value, tuple) or len(value) != 3 or not all([is_lot(lot, blocks) for lot in value]):
        return False
    every = [block for lot in value for block in lot]
    return len(set(every)) == len(every)


def serve_fault(call, sums):
    """None if the sums serve all hearers and tell nothing hidden, otherwise the first fault."""
    need_lots(sums, call.blocks, MOST_SUMS)
    called = [mask_of(lot) for lot in sums]
    for hearer in range(len(call.hearers)):
        fault = _hearer_fault(call, called, hearer)
        if fault is not None:
            return fault
    return None


def _hearer_fault(call, called, hearer):
    """The first fault for this hearer, with the called sums as masks; None if there is none."""
    has, wants, hidden = call.hearers[hearer]
    told = reduce_rows(called + [1 << block for block in has])
    twins = check_rows(told, call.blocks)
    for block in wants:
        for twin in twins:
            if twin >> block & 1:
                return "wants", hearer, block, lot_of(twin)
    heard = unseen(told, ~mask_of(hidden))
    if heard:
        return "hidden", hearer, lot_of(first_sum(reduce_rows(heard)))
    return None


def fewest(call):
    """(number, sums) with the least number of sums that serve the call; None if none do."""
    if call.blocks > MOST_SEARCHED:
        raise TooMany(MOST_SEARCHED)
    # What is told depends on the book of all sums of the called ones alone, so each is tried once.
    books = [()]
    while books:
        for rows in books:
            sums = [lot_of(row) for row in rows]
            if serve_fault(call, sums) is None:
                return len(sums), sums
        books = _with_one_more(books, call.blocks)
    return None


def _with_one_more(books, blocks):
    """The reduced rows, as tuples, of all books that are told by those of one of these and one row more."""
    found = {}
    for rows in books:
        for mask in range(1, 1 << blocks):
            larger = reduce_rows(rows + (mask,))
            if len(larger) > len(rows):
                found[tuple(larger)] = True
    return list(found)


def chain_fault(call, chain):
    """None if it is a chain of the call, otherwise the first fault."""
    if not isinstance(chain, list) or not all([_is_link(call, link) for link in chain]):
        return ("form",)
    for index, (hearer, block) in enumerate(chain):
        if block not in call.hearers[hearer][1]:
            return "wants", index
    taken = set()
    for index, (_, block) in enumerate(chain):
        if block in taken:
            return "twice", index
        taken.add(block)
    for index, (hearer, _) in enumerate(chain):
        for later in range(index + 1, len(chain)):
            if chain[later][1] in call.hearers[hearer][0]:
                return "has", index, later
    return None


def _is_link(call, value):
    """True if the value is a pair of the number of a hearer and a block."""
    if not isinstance(value, tuple) or len(value) != 2:
        return False
    return is_below(value[0], len(call.hearers)) and is_below(value[1], call.blocks)


def longest_chain(call):
    """A longest chain of the call."""
    firsts = _first_links(call)
    blocks = max(list(firsts), key=ones)
    chain = []
    while blocks:
        link = firsts[blocks]
        chain.append(link)
        blocks ^= 1 << link[1]
    return chain


def _first_links(call):
    """For the mask of the blocks of each chain: the first pair of such a chain, None for the empty one.

    Without its first pair a chain is one, too, so that chains grow at the front.
    """
    firsts = {0: None}
    # What is put ahead makes the mask greater, so that each one is complete when its turn comes.
    for later in range(1 << call.blocks):
        if later in firsts:
            for hearer, (has, wants, _) in enumerate(call.hearers):
                if not mask_of(has) & later:
                    for block in lot_of(mask_of(wants) & ~later):
                        firsts[later | 1 << block] = (hearer, block)
    return firsts
