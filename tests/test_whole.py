"""Points 1 to 7 over the whole program: arguments by name, every error, one answer asked in many ways."""

import inspect
import random
import unittest

from blindtwins import books, calls, clutters, counts, deals, errors, house, kept, known, logs, looks, lots
from blindtwins import noise, stores, texts, wires
from blindtwins.books import Book
from blindtwins.calls import Call
from blindtwins.deals import Deal
from blindtwins.house import House
from blindtwins.kept import Kept
from blindtwins.noise import Noise
from blindtwins.stores import Store
from blindtwins.wires import State

from tests import plain
from tests.test_form import INTERFACE, METHODS
from tests.values import ErrorCase, nested

MODULES = (books, calls, clutters, counts, deals, errors, house, kept, known, logs, looks, lots, noise, stores,
           texts, wires)
BOOK = Book(4, [(0, 1), (1, 2), (2, 3)])
LOOK = (0, (), (0,))
SEEN = {"ann": (0, 1), "bob": (2,)}


def store():
    return Store(BOOK, ((0,), (1,), (2, 3)))


def deal():
    return Deal(BOOK, SEEN, {"pin": (3,)}).say((2,))


def call():
    return Call(2, (((0,), (1,), ()), ((1,), (0,), ())))


def four():
    return Kept(4, [((0, 1, 2, 3), ()), ((), (0, 1, 2, 3))])


def fallen():
    one = House(BOOK, (0, 1))
    one += [("look", 0), ("fall", 3)]
    return one


# For each function and class: arguments, told in their order, that are right.
FUNCTIONS = {
    lots.is_lot: ((0, 2), 3), lots.plus: ((0, 1), (1, 2)), lots.bit_at: ((0, 1), (1,)), lots.total: ([(0,), (1,)],),
    Book: (3, [(0, 1)]), Store: (BOOK, ((0, 1, 2, 3),)), Deal: (BOOK, SEEN, {"pin": (3,)}), State: (1, [LOOK]),
    Kept: (2, [((0,), ())]), Call: (1, (((), (0,), ()),)), Noise: (BOOK, [(0,)]), House: (BOOK, (0, 1)),
    known.see: (BOOK, (0, 1)), known.hide: (BOOK, (0, 1)), known.knows: (BOOK, (0, 1, 2), (3,)),
    known.knows_fault: (BOOK, (0, 1), (2,), ("twin", (0, 1))), known.left: (BOOK, [(2,), (3,)], (0, 1)),
    known.fillings: (BOOK, [(2,)], (0,), (0, 1)), known.least_more: (BOOK, (0, 1), (3,), {2: 4}),
    known.same_known: (BOOK, (0,), (1,)),
    clutters.least_knowing: (BOOK, (3,)), clutters.least_blinding: (BOOK, (3,)),
    clutters.is_clutter: ([(0,), (1, 2)], 3), clutters.blocker: ([(0,), (1, 2)], 4),
    clutters.cheapest_knowing: (BOOK, (3,), {0: 1, 1: 2, 2: 3}),
    clutters.cheapest_blinding: (BOOK, (3,), {0: 1, 1: 2, 2: 3}),
    stores.places_of: (store(), (0, 2)), stores.lost: (store(), (2,)), stores.heal: (store(), (1,)),
    stores.heal_fault: (store(), (1,), ("sums", {})), stores.repair: (store(), 1, (1,), (5, 0, 2)),
    stores.rounds: (store(), (1,), 2), stores.weakest: (store(),), stores.bad_falls: (store(), 1),
    stores.heals: (store(), [(0,)], [(0,), (2,)]),
    looks.is_look: (LOOK, 1), looks.together: (LOOK, (0, (0,), ())), looks.times: (LOOK, (1, (1,), ())),
    wires.zeros: (2,), wires.run: (wires.zeros(1), [("look", LOOK)], [1]),
    kept.gain: (four(), (0, 1)), kept.mends: (four(), (0, 1)), kept.moved_off: (four(), (0,), ((0, 1), ())),
    kept.weakest_wires: (four(),), kept.between: (Kept(1, [((), (0,))]), (0,)),
    kept.from_books: (Book(4, [(0, 1, 2, 3)]), Book(4, [(0, 1)])),
    calls.serve_fault: (call(), [(0,)]), calls.fewest: (call(),), calls.chain_fault: (call(), [(0, 0)]),
    calls.longest_chain: (call(),),
    noise.up_to: (BOOK, 1), noise.surely: (Noise(BOOK, [(0,), (1,)]),), noise.greatest: (BOOK,),
    noise.words_of: (Noise(BOOK, [(0,)]), (1,), (2,)), noise.ask_again: (Noise(BOOK, [(0,)]), (1,), (2,)),
    counts.weights: (BOOK,), counts.turned_weights: (3, 2, [1, 0, 3, 0]), counts.knowing_counts: (BOOK, 1),
    logs.count_fit: (BOOK, [((0,), 1)]), logs.sure: (BOOK, [((0,), 1)], (0,)),
    logs.against: (BOOK, [((), 1)]), logs.against_fault: (BOOK, [((0,), 1)], (0,)),
    logs.least_against: (BOOK, [((), 1)]),
    texts.book_text: (BOOK,), texts.read_book: ("book 3 1\n101",), texts.log_text: (BOOK, [((0, 2), 1)]),
    texts.read_log: (BOOK, "0 2 1"),
}
# For each class: how one is made, and the arguments of its methods.
CALLED = {
    Book: (lambda: BOOK, {
        "rows": (), "checks": (), "holds": ((0, 1),), "is_check": ((0, 1),), "tell_same": ((0, 1), (2, 3)),
        "turned": (), "within": ((0, 1),), "shown": ((0, 1),), "on": ((0, 1),), "under": ((0, 1),),
        "join": (Book(4, [(0,)]),), "meet": (Book(4, [(0, 1)]),), "beside": (Book(1, []),),
        "moved": ((3, 2, 1, 0),), "with_sum": ((0, 1),), "words": (), "word_of": ((0, 2),), "__eq__": (Book(1, []),)}),
    Store: (store, {"__eq__": (store(),)}),
    Deal: (deal, {
        "knows": (["ann"], "pin"), "knows_fault": (["ann"], "pin", ("twin", ())), "left": (["bob"], ["pin"]),
        "say": ((0,),), "leave": ("ann",), "hand_over": ("ann", "bob"), "least_groups": ("pin",),
        "least_blinding": ("pin",), "agreed": (["ann"], ["bob"]), "agreed_lots": (["ann"], ["bob"]),
        "agreed_fault": (["ann"], ["bob"], [(0,)]), "__eq__": (deal(),)}),
    State: (lambda: wires.zeros(2).swap_sorts(0), {
        "looks": (), "swap_sorts": (1,), "quarter": (0,), "tied": (0, 1), "turn_by": (LOOK,), "look": (LOOK,),
        "__eq__": (wires.zeros(2),)}),
    Kept: (four, {"__eq__": (four(),)}), Call: (call, {}), Noise: (lambda: Noise(BOOK, [()]), {}),
    House: (fallen, {
        "look": (1,), "ask": ((0,),), "fall": (0,), "heal": (3,), "undo": (), "trial": ([("look", 1)],),
        "watch": ([("look", 1)],), "__iadd__": ([("look", 1)],), "__len__": (), "__contains__": (0,)}),
}


def plainly(value):
    """What two values are compared by, also where they are objects that are equal to themselves alone."""
    if isinstance(value, (Noise, Call, House)):
        return type(value).__name__, sorted((name, plainly(held)) for name, held in vars(value).items()
                                            if not isinstance(held, Book))
    if inspect.isgenerator(value):
        return list(value)
    if isinstance(value, (tuple, list)):
        return type(value), [plainly(item) for item in value]
    return value


class TestNames(unittest.TestCase):

    def test_each_function_is_tried(self):
        listed = [getattr(module, line.split("(")[0]) for module, lines in INTERFACE.items() for line in lines]
        self.assertEqual(set(FUNCTIONS), set(listed) | set(METHODS))
        for owner, lines in METHODS.items():
            self.assertEqual({line.split("(")[0] for line in lines} - {"__init__"}, set(CALLED[owner][1]))

    def named(self, function, args):
        """The arguments under their names, the last one first."""
        names = list(inspect.signature(function).parameters)
        self.assertEqual(len(names), len(args))
        return {name: value for name, value in list(zip(names, args))[::-1]}

    def test_functions(self):
        for function, args in FUNCTIONS.items():
            found = function(**self.named(function, args))
            self.assertEqual(plainly(found), plainly(function(*args)), function)

    def test_methods(self):
        for owner, (make, methods) in CALLED.items():
            for name, args in methods.items():
                one, other = make(), make()
                found = getattr(one, name)(**self.named(getattr(one, name), args))
                self.assertEqual(plainly(found), plainly(getattr(other, name)(*args)), name)


class TestErrors(ErrorCase):

    def cases(self):
        """For each error class a call that raises it, and the value that it has."""
        noughts = wires.zeros(1)
        heard = Deal(BOOK, SEEN, {"pin": (3,)})
        return {
            "BadSize": (-1, lots.is_lot, (), -1), "BadLot": (8, Book(1, []).holds, 8),
            "BadLots": (1, Book, 2, [(0,), 5]), "BadOrder": ((0, 0), Book(2, []).moved, (0, 0)),
            "Unlike": (1, BOOK.join, Book(1, [])), "TooMany": (24, Book(24, []).with_sum, ()),
            "BadPrices": ((), known.least_more, BOOK, (), (), ()), "BadClutter": (None, clutters.blocker, None, 3),
            "BadDisks": (1, Store, BOOK, ((0,),)), "BadPlace": (4, counts.knowing_counts, BOOK, 4),
            "BadCount": (0, stores.rounds, store(), (), 0), "BadFalls": (-1, stores.heals, store(), [], ()),
            "BadHands": ("x", Deal, BOOK, {"x": 1}, {}), "BadSecrets": (None, Deal, BOOK, SEEN, {}),
            "BadGroup": ("ann", heard.knows, "ann", "pin"), "BadName": ("p", heard.knows, ["ann"], "p"),
            "BadNames": (0, heard.left, [], 0), "BadLook": (LOOK[1:], looks.together, LOOK[1:], LOOK),
            "BadLooks": (None, looks.times, LOOK, (0, (0,), ())), "BadWire": (1, noughts.quarter, 1),
            "BadScript": (0, wires.run, noughts, [()], []), "BadBits": (None, wires.run, noughts, [], None),
            "BadDeed": (7, kept.moved_off, four(), (), 7), "Lost": (None, kept.between, four(), ()),
            "BadHearers": (-1, Call, 1, ()), "NoWord": (None, noise.ask_again, Noise(BOOK, [()]), (0,), ()),
            "BadList": (None, counts.turned_weights, 1, 0, None), "Fallen": (3, fallen().look, 3),
            "Standing": (0, fallen().heal, 0), "Blind": ((0, 1), House(Book(2, [(0, 1)]), ()).ask, (0,)),
            "BadDeeds": (-1, fallen().trial, None), "BadLog": (0, logs.count_fit, BOOK, [()]),
            "BadText": (0, texts.read_book, None),
        }

    def test_each_error_is_raised(self):
        cases = self.cases()
        classes = [thing for thing in vars(errors).values() if inspect.isclass(thing)]
        self.assertEqual(set(cases) | {"BlindError"}, {one.__name__ for one in classes})
        self.assertEqual(len(cases), 33)
        for name, (what, function, *args) in cases.items():
            for error in (getattr(errors, name), errors.BlindError, ValueError):
                with self.assertRaises(error) as caught:
                    function(*args)
                self.assertIs(type(caught.exception), getattr(errors, name))
                self.assertEqual(caught.exception.what, what)
            fitting = [one for one in classes if isinstance(caught.exception, one)]
            self.assertEqual(fitting, [errors.BlindError, getattr(errors, name)])

    def test_each_error_is_made(self):
        for name in self.cases():
            error = getattr(errors, name)
            self.assertEqual(error.__bases__, (errors.BlindError,))
            self.assertEqual((error(5).what, error(what=5).what, error().what), (5, 5, None))

    def test_deep_values(self):
        # Nested as deep as a value may be, within lists, tuples and dicts that are nested anew.
        deep = nested((), lambda x: {0: [(x,)]}, 8)
        for function, args in FUNCTIONS.items():
            parameters = list(inspect.signature(function).parameters)
            for index, name in enumerate(parameters):
                if name not in ("book", "store", "deal", "kept", "state", "call", "noise", "flips", "turns"):
                    for value in (deep, [deep], (deep,), {"a": deep}, [(deep, deep)], (deep, deep, deep)):
                        self.try_with(function, args[:index] + (value,) + args[index + 1:])

    def try_with(self, function, args):
        """No error but those of the package comes of a value of any kind."""
        try:
            function(*args)
        except errors.BlindError:
            pass


class TestOneAnswer(unittest.TestCase):

    def cases(self):
        source = random.Random(1)
        for size in (1, 2, 3):
            for rows, _ in plain.all_books(size):
                for part in plain.all_lots(size):
                    for wish in plain.all_lots(size):
                        yield source, Book(size, rows), part, wish
        for _ in range(300):
            size = source.randrange(4, 12)
            rows = [tuple(sorted(source.sample(range(size), source.randrange(size)))) for _ in range(size // 2)]
            part, wish = (tuple(sorted(source.sample(range(size), source.randrange(size)))) for _ in range(2))
            yield source, Book(size, rows), part, wish

    def test_all_ways(self):
        answers = []
        for source, book, part, wish in self.cases():
            knowing = known.knows(book, part, wish)[0] == "sum"
            answers.append(knowing)
            word = source.choice(book.words())
            found = [self.by_deal(book, part, wish), self.by_house(book, part, wish, word),
                     self.by_store(book, part, wish), self.by_call(book, part, wish),
                     self.by_log(book, part, wish, word)]
            self.assertEqual(found, [knowing] * 5)
            self.assertEqual(known.left(book, [wish], part), int(not knowing))
        self.assertGreater(min(answers.count(True), answers.count(False)), 200)

    def by_deal(self, book, part, wish):
        one = Deal(book, {"ann": part}, {"pin": wish})
        kind = one.knows(["ann"], "pin")[0]
        self.assertEqual(one.left(["ann"], ["pin"]), int(kind == "twin"))
        return kind == "sum"

    def by_house(self, book, part, wish, word):
        one = House(book, word)
        one += [("look", place) for place in part]
        try:
            self.assertEqual(one.ask(wish), lots.bit_at(word, wish))
            return True
        except errors.Blind as error:
            self.assertIsNone(known.knows_fault(book, part, wish, ("twin", error.what)))
            return False

    def by_store(self, book, part, wish):
        """The wish is one place more, which falls with the rest of the places."""
        rest = plain.without(tuple(range(book.size + 1)), part)
        disks = tuple(lot for lot in (rest, part) if lot)
        one = Store(book.with_sum(wish), disks)
        return stores.repair(one, book.size, (0,), (1,) * len(disks)) is not None

    def by_call(self, book, part, wish):
        """The wish is one block more, and the checks are called: their bits are 0."""
        checks = book.with_sum(wish).checks()
        return calls.serve_fault(Call(book.size + 1, ((part, (book.size,), ()),)), checks) is None

    def by_log(self, book, part, wish, word):
        bit = logs.sure(book, [((place,), int(place in word)) for place in part], wish)
        self.assertIn(bit, (None, lots.bit_at(word, wish)))
        return bit is not None


class TestInterface(unittest.TestCase):

    def test_all_modules_are_those_of_the_document(self):
        names = sorted(module.__name__ for module in MODULES)
        listed = "books calls clutters counts deals errors house kept known logs looks lots noise stores texts wires"
        self.assertEqual(names, ["blindtwins." + name for name in listed.split()])


if __name__ == "__main__":
    unittest.main()
