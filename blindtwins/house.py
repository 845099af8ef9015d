"""A live house: a word of a book that is not seen, and places that are looked at, fall and heal."""

from blindtwins.errors import BadDeeds, BadLot, Blind, Fallen, Standing
from blindtwins.known import knows
from blindtwins.lots import bit_at, is_number, need_place

MOST_DEEDS = 200
KINDS = ("look", "ask", "fall", "heal")


class House:
    """A book, the lots of its places that are seen and that have fallen, and the number of asks."""

    def __init__(self, book, word):
        if not book.holds(word):
            raise BadLot(word)
        self.book = book
        self.seen = ()
        self.fallen = ()
        self.asked = 0
        self._word = word
        # For each deed that stands: what was seen, fallen and asked before it. The word never changes.
        self._past = []

    def look(self, place):
        """The bit at the place, which is seen from now on."""
        self._need_standing(place)
        self._become(_with(self.seen, place), self.fallen, self.asked)
        return self._bit((place,))

    def ask(self, wish):
        """The bit at the wish, if the seen places know it."""
        kind, found = knows(self.book, self.seen, wish)
        if kind == "twin":
            raise Blind(found)
        self._become(self.seen, self.fallen, self.asked + 1)
        return self._bit(wish)

    def fall(self, place):
        """Lets the place fall."""
        self._need_standing(place)
        self._become(_without(self.seen, place), _with(self.fallen, place), self.asked)

    def heal(self, place):
        """Puts the bit of a fallen place back, if the places that have not fallen know it."""
        need_place(place, self.book.size)
        if place not in self.fallen:
            raise Standing(place)
        standing = tuple([other for other in range(self.book.size) if other not in self.fallen])
        kind, found = knows(self.book, standing, (place,))
        if kind == "twin":
            raise Blind(found)
        self._become(self.seen, _without(self.fallen, place), self.asked)

    def undo(self):
        """Takes back the last deed that stands; False if there is none."""
        if len(self._past) == 0:
            return False
        self.seen, self.fallen, self.asked = self._past.pop()
        return True

    def trial(self, deeds):
        """The list of what the deeds would tell."""
        _need_deeds(deeds)
        other = House(self.book, self._word)
        other.seen = self.seen
        other.fallen = self.fallen
        other.asked = self.asked
        return [other._do(deed) for deed in deeds]

    def watch(self, deeds):
        """Does the deeds, and yields for each what it tells."""
        _need_deeds(deeds)
        for deed in list(deeds):
            yield self._do(deed)

    def __iadd__(self, deeds):
        # The trial raises the error of a deed before any is done.
        self.trial(deeds)
        for deed in deeds:
            self._do(deed)
        return self

    def __len__(self):
        return len(self._past)

    def __contains__(self, place):
        return is_number(place) and place in self.seen

    def _need_standing(self, place):
        need_place(place, self.book.size)
        if place in self.fallen:
            raise Fallen(place)

    def _become(self, seen, fallen, asked):
        """Changes the house by a deed that can be undone."""
        self._past.append((self.seen, self.fallen, self.asked))
        self.seen = seen
        self.fallen = fallen
        self.asked = asked

    def _bit(self, lot):
        """The bit of the word at the lot."""
        return bit_at(self._word, lot)

    def _do(self, deed):
        """Does the deed and returns what it tells; None for a fall and a heal."""
        kind, at = deed
        if kind == "look":
            return self.look(at)
        if kind == "ask":
            return self.ask(at)
        if kind == "fall":
            return self.fall(at)
        return self.heal(at)


def _need_deeds(deeds):
    """Raises BadDeeds unless it is a list of at most 200 pairs of a kind of deed and an argument."""
    if not isinstance(deeds, list) or len(deeds) > MOST_DEEDS:
        raise BadDeeds(-1)
    for index, deed in enumerate(deeds):
        if not isinstance(deed, tuple) or len(deed) != 2 or deed[0] not in KINDS:
            raise BadDeeds(index)


def _with(lot, place):
    """The lot with this place in it."""
    return tuple(sorted(set(lot + (place,))))


def _without(lot, place):
    """The lot without this place."""
    return tuple([other for other in lot if other != place])
