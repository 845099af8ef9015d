"""Looks, their products and groups by the definitions of points 29 to 36, and as Pauli's matrices."""

from functools import lru_cache

from tests import plain

ONE, FLIP, TURN, BOTH = ((1, 0), (0, 1)), ((0, 1), (1, 0)), ((1, 0), (0, -1)), ((0, -1j), (1j, 0))


def all_looks(wires):
    lots = plain.all_lots(wires)
    return [(sign, flips, turns) for sign in (0, 1) for flips in lots for turns in lots]


def beside(one, other):
    """The Kronecker product of two matrices."""
    return tuple(tuple(a * b for a in first for b in second) for first in one for second in other)


def matrix(look, wires):
    """The operator that a look stands for."""
    sign, flips, turns = look
    result = ((1 - 2 * sign,),)
    for wire in range(wires):
        kinds = {(0, 0): ONE, (1, 0): FLIP, (0, 1): TURN, (1, 1): BOTH}
        result = beside(result, kinds[wire in flips, wire in turns])
    return result


def product_of(one, other):
    columns = list(zip(*other))
    return tuple(tuple(sum(a * b for a, b in zip(row, column)) for column in columns) for row in one)


def common(one, other):
    return len(set(one) & set(other))


def go_together(one, other):
    """The definition of point 29, word by word."""
    return common(one[1], other[2]) % 2 == common(one[2], other[1]) % 2


def by_the_rule(one, other):
    (s, f, t), (s2, f2, t2) = one, other
    flips, turns = plain.add(f, f2), plain.add(t, t2)
    number = 2 * s + 2 * s2 + common(f, t) + common(f2, t2) + 2 * common(t, f2) - common(flips, turns)
    assert number % 4 in (0, 2)
    return number % 4 // 2, flips, turns


def some_looks(source, wires, number):
    lots = [tuple(sorted(source.sample(range(wires), source.randrange(wires + 1)))) for _ in range(2 * number)]
    return [(source.randrange(2), lots[2 * k], lots[2 * k + 1]) for k in range(number)]


NOTHING = (0, (), ())


def product_of_looks(looks):
    result = NOTHING
    for look in looks:
        result = by_the_rule(result, look)
    return result


def group(looks):
    """All products of some of the looks."""
    found = [NOTHING]
    for look in looks:
        found += [by_the_rule(other, look) for other in found]
    return frozenset(found)


def flat(pair, wires):
    """The pair as the lot of its flips and of wires + its turns."""
    flips, turns = pair
    return flips + tuple(wires + wire for wire in turns)


def pair_of(lot, wires):
    return tuple(k for k in lot if k < wires), tuple(k - wires for k in lot if k >= wires)


def reduced(words):
    """The reduced rows of a set of words, by their definition."""
    firsts = {word[0] for word in words if word}
    rows = [word for word in words if word and set(word) & firsts == {word[0]}]
    return sorted(rows, key=lambda row: row[0])


def reduced_looks(looks, wires):
    """The reduced looks of a group."""
    signs = {flat(look[1:], wires): look[0] for look in looks}
    return [(signs[row],) + pair_of(row, wires) for row in reduced(set(signs))]


def first_unfit(pairs, wires):
    """The first index of a pair that does not fit to those ahead of it; None if there is none."""
    for index, pair in enumerate(pairs):
        earlier = pairs[:index]
        if not all(go_together((0,) + pair, (0,) + other) for other in earlier):
            return index
        if flat(pair, wires) in plain.sums([flat(other, wires) for other in earlier]):
            return index
    return None


@lru_cache(None)
def all_pairs(wires):
    lots = plain.all_lots(wires)
    return [(flips, turns) for flips in lots for turns in lots]


@lru_cache(None)
def all_states(wires):
    """For each group of a state of so many wires: looks that tell it."""
    found = {}
    lists = [[]]
    for number in range(wires):
        lists = [looks + [look] for looks in lists for look in all_looks(wires)
                 if first_unfit([some[1:] for some in looks + [look]], wires) is None]
    for looks in lists:
        found.setdefault(group(looks), looks)
    return found


def whole(gates, wires):
    """The operator of gates, a dict from wires to matrices, on all wires."""
    result = ((1,),)
    for wire in range(wires):
        result = beside(result, gates.get(wire, ONE))
    return result


def sum_of(one, other):
    return tuple(tuple(a + b for a, b in zip(*rows)) for rows in zip(one, other))


def scaled(one, number):
    return tuple(tuple(number * a for a in row) for row in one)


def deed_matrix(kind, wires, *at):
    """(operator, its inverse, number): what the deed does, times the number."""
    if kind == "sorts":
        both = whole({at[0]: sum_of(FLIP, TURN)}, wires)
        return both, both, 2
    if kind == "quarter":
        return whole({at[0]: ((1, 0), (0, 1j))}, wires), whole({at[0]: ((1, 0), (0, -1j))}, wires), 1
    if kind == "tied":
        off = whole({at[0]: ((1, 0), (0, 0))}, wires)
        on = whole({at[0]: ((0, 0), (0, 1)), at[1]: FLIP}, wires)
        both = sum_of(off, on)
        return both, both, 1
    own = matrix(at[0], wires)
    return own, own, 1


def done_to(look, kind, wires, *at):
    """What becomes of a look by a deed: its matrix is looked for among those of all looks."""
    there, back, number = deed_matrix(kind, wires, *at)
    result = product_of(product_of(there, matrix(look, wires)), back)
    found = [other for other in all_looks(wires) if scaled(matrix(other, wires), number) == result]
    assert len(found) == 1
    return found[0]
