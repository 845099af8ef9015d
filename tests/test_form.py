"""The rules of LANGUAGE.md that a look at the source can tell."""

import ast
import builtins
import inspect
import os
import re
import unittest

from blindtwins import books, calls, clutters, counts, deals, errors, house, kept, known, logs, looks, lots
from blindtwins import noise, stores, texts, wires

PACKAGE = os.path.join(os.path.dirname(os.path.dirname(os.path.abspath(__file__))), "blindtwins")
BUILTINS = """len range enumerate zip min max sum abs sorted reversed int str bool bytes list tuple
dict set frozenset isinstance ord repr any all divmod iter next Exception ValueError TypeError
KeyError IndexError LookupError ZeroDivisionError ArithmeticError OverflowError RuntimeError
NotImplementedError AttributeError StopIteration NotImplemented super property staticmethod
classmethod""".split()
LIBRARY = {"heapq": "heappush heappop heapify heapreplace heappushpop".split(),
           "math": "gcd lcm isqrt comb perm factorial".split(),
           "itertools": "product combinations permutations".split()}
# Barred everywhere, and barred but for attributes.
NOWHERE = """type typing typing_extensions enum Enum IntEnum StrEnum Flag IntFlag Generic Protocol ABC
ABCMeta namedtuple NamedTuple TypedDict TYPE_CHECKING abstractmethod register mro elements open
input law version_info with_traceback add_note""".split()
NO_NAMES = """attrgetter breakpoint builtins compile copyright credits delattr dir eval exec exit gc
getattr globals hasattr help id importlib license locals methodcaller os quit setattr vars""".split()
# Barred as names, also with digits or underscores behind them; and as beginnings of names.
NOT_CALLED = r"(_cold|_tuplegetter|_outside|_record|_written_out|_member_names)[0-9_]*"
NOT_BEGUN = r"(__|_[^a-z]|_wall|_pe_|_dcw_|_enum_|_cm_|_twin_re_|_lay_|_law_|_stub_|_sre|_WallAttr)"
DOUBLE = ["__init__", "__eq__", "__iadd__", "__len__", "__contains__"]
INTERFACE = {
    lots: ["is_lot(value, size)", "plus(one, other)", "bit_at(word, lot)", "total(lots)"],
    known: ["see(book, part)", "hide(book, part)", "knows(book, part, wish)",
            "knows_fault(book, part, wish, answer)", "left(book, wishes, part)",
            "fillings(book, wishes, part, word)", "least_more(book, part, wish, prices)",
            "same_known(book, one, other)"],
    clutters: ["least_knowing(book, wish)", "least_blinding(book, wish)", "is_clutter(value, size)",
               "blocker(clutter, size)", "cheapest_knowing(book, wish, prices)",
               "cheapest_blinding(book, wish, prices)"],
    stores: ["places_of(store, disks)", "lost(store, fall)", "heal(store, fall)",
             "heal_fault(store, fall, answer)", "repair(store, place, fall, prices)",
             "rounds(store, fall, most)", "weakest(store)", "bad_falls(store, number)",
             "heals(store, sums, falls)"],
    looks: ["is_look(value, wires)", "together(one, other)", "times(one, other)"],
    wires: ["zeros(wires)", "run(state, script, bits)"],
    kept: ["gain(kept, part)", "mends(kept, fall)", "moved_off(kept, fall, deed)", "weakest_wires(kept)",
           "between(kept, part)", "from_books(flips, turns)"],
    calls: ["serve_fault(call, sums)", "fewest(call)", "chain_fault(call, chain)", "longest_chain(call)"],
    noise: ["up_to(book, number)", "surely(noise)", "words_of(noise, came, silent)",
            "ask_again(noise, came, silent)", "greatest(book)"],
    counts: ["weights(book)", "turned_weights(size, dim, weights)", "knowing_counts(book, place)"],
    logs: ["count_fit(book, log)", "sure(book, log, wish)", "against(book, log)",
           "against_fault(book, log, indexes)", "least_against(book, log)"],
    texts: ["book_text(book)", "read_book(text)", "log_text(book, log)", "read_log(book, text)"],
}
METHODS = {
    books.Book: """rows(self) checks(self) holds(self,word) is_check(self,lot) tell_same(self,one,other)
turned(self) within(self,part) shown(self,part) on(self,part) under(self,part) join(self,other)
meet(self,other) beside(self,other) moved(self,order) with_sum(self,lot) words(self)
word_of(self,numbers) __eq__(self,other) __init__(self,size,rows)""".split(),
    stores.Store: "__init__(self,book,disks) __eq__(self,other)".split(),
    deals.Deal: """__init__(self,book,hands,secrets) knows(self,group,secret)
knows_fault(self,group,secret,answer) left(self,group,names) say(self,lot) leave(self,name)
hand_over(self,name,other) least_groups(self,secret) least_blinding(self,secret)
agreed(self,hands,listeners) agreed_lots(self,hands,listeners)
agreed_fault(self,hands,listeners,lots) __eq__(self,other)""".split(),
    wires.State: """__init__(self,wires,looks) looks(self) swap_sorts(self,wire) quarter(self,wire)
tied(self,first,second) turn_by(self,look) look(self,look) __eq__(self,other)""".split(),
    kept.Kept: "__init__(self,wires,looks) __eq__(self,other)".split(),
    calls.Call: ["__init__(self,blocks,hearers)"],
    noise.Noise: ["__init__(self,book,patterns)"],
    house.House: """__init__(self,book,word) look(self,place) ask(self,wish) fall(self,place)
heal(self,place) undo(self) trial(self,deeds) watch(self,deeds) __iadd__(self,deeds) __len__(self)
__contains__(self,place)""".split(),
}


def sources():
    """(file name, text, tree) of each file of the package."""
    for name in sorted(os.listdir(PACKAGE)):
        if name.endswith(".py"):
            with open(os.path.join(PACKAGE, name), encoding="utf-8") as file:
                text = file.read()
            yield name, text, ast.parse(text)


def nodes(kind):
    for name, _, tree in sources():
        for node in ast.walk(tree):
            if isinstance(node, kind):
                yield f"{name}:{getattr(node, 'lineno', 0)}", node


class TestFiles(unittest.TestCase):

    def test_files(self):
        for name in os.listdir(PACKAGE):
            self.assertTrue(name == "__pycache__" or re.fullmatch(r"[a-z_0-9]+\.py", name), name)

    def test_lines(self):
        for name, text, _ in sources():
            lines = text.split("\n")
            self.assertLessEqual(len(lines), 399, name)
            self.assertTrue(all(len(line) <= 120 for line in lines), name)
            self.assertTrue(all(sign == "\n" or " " <= sign <= "~" for sign in text), name)

    def test_functions_are_small(self):
        for where, node in nodes((ast.FunctionDef, ast.Lambda)):
            self.assertLessEqual(node.end_lineno - node.lineno, 39, where)

    def test_words(self):
        for where, node in nodes(ast.Constant):
            if isinstance(node.value, str) and "\n" not in node.value:
                self.assertNotIn("%", node.value, where)
        for where, node in nodes((ast.Name, ast.arg, ast.FunctionDef, ast.ClassDef)):
            for field in ("id", "arg", "name"):
                self.assertNotIn(getattr(node, field, None), NOWHERE + NO_NAMES, where)
        for where, node in nodes(ast.Attribute):
            self.assertNotIn(node.attr, NOWHERE, where)


    def test_plain_names(self):
        for where, node in nodes((ast.Name, ast.arg, ast.FunctionDef, ast.ClassDef, ast.Attribute)):
            for field in ("id", "arg", "name", "attr"):
                name = getattr(node, field, "")
                if isinstance(name, str) and name not in DOUBLE and name != "_":
                    self.assertIsNone(re.fullmatch(NOT_CALLED, name), where)
                    self.assertIsNone(re.match(NOT_BEGUN, name), where)


class TestStatements(unittest.TestCase):

    def test_imports(self):
        for where, node in nodes((ast.Import, ast.ImportFrom)):
            self.assertIsInstance(node, ast.ImportFrom, where)
            self.assertEqual(node.level, 0, where)
            if node.module in LIBRARY:
                self.assertTrue(all(item.name in LIBRARY[node.module] for item in node.names), where)
            else:
                self.assertTrue(node.module.startswith("blindtwins."), where)
            self.assertTrue(all(item.asname is None for item in node.names), where)

    def test_names_are_bound_once(self):
        for name, _, tree in sources():
            imported = [item.name for node in tree.body if isinstance(node, ast.ImportFrom) for item in node.names]
            defined = [node.name for node in tree.body if isinstance(node, (ast.FunctionDef, ast.ClassDef))]
            targets = [node.targets[0].id for node in tree.body if isinstance(node, ast.Assign)]
            every = imported + defined + targets
            self.assertEqual(sorted(every), sorted(set(every)), name)
            local = [node.arg for node in ast.walk(tree) if isinstance(node, ast.arg)]
            functions = [node for node in ast.walk(tree) if isinstance(node, ast.FunctionDef)]
            local += [node.id for function in functions for node in ast.walk(function)
                      if isinstance(node, ast.Name) and isinstance(node.ctx, ast.Store)]
            # The interface has a function and a parameter of the name weights.
            self.assertLessEqual(set(local) & set(every), {"weights"}, name)
            self.assertEqual(set(local) & set(imported), set(), name)
            used = [node.id for node in ast.walk(tree) if isinstance(node, ast.Name)]
            self.assertEqual(set(imported) - set(used), set(), name)

    def test_imports_name_the_file_that_defines(self):
        trees = {name: tree for name, _, tree in sources()}
        for where, node in nodes(ast.ImportFrom):
            if node.module.startswith("blindtwins."):
                body = trees[node.module.split(".")[1] + ".py"].body
                defined = [item.name for item in body if isinstance(item, (ast.FunctionDef, ast.ClassDef))]
                defined += [item.targets[0].id for item in body if isinstance(item, ast.Assign)]
                for item in node.names:
                    self.assertIn(item.name, defined, where)

    def test_no_import_leads_back(self):
        needs = {name: set() for name, _, _ in sources()}
        for where, node in nodes(ast.ImportFrom):
            if node.module.startswith("blindtwins."):
                needs[where.split(":")[0]].add(node.module.split(".")[1] + ".py")
        while needs:
            free = [name for name in needs if not needs[name] & set(needs)]
            self.assertNotEqual(free, [], needs)
            needs = {name: needs[name] for name in needs if name not in free}

    def test_attributes_and_methods_have_unlike_names(self):
        for where, node in nodes(ast.ClassDef):
            methods = [item.name for item in node.body if isinstance(item, ast.FunctionDef)]
            attributes = [item.attr for item in ast.walk(node)
                          if isinstance(item, ast.Attribute) and isinstance(item.ctx, ast.Store)]
            self.assertEqual(len(methods), len(set(methods)), where)
            self.assertEqual(set(methods) & set(attributes), set(), where)

    def test_builtins(self):
        every = [name for name in dir(builtins) if not name.startswith("__")]
        for where, node in nodes(ast.Name):
            if node.id in every:
                self.assertIn(node.id, BUILTINS, where)
                self.assertIsInstance(node.ctx, ast.Load, where)
        for where, node in nodes((ast.arg, ast.FunctionDef)):
            name = node.arg if isinstance(node, ast.arg) else node.name
            self.assertNotIn(name, every, where)

    def test_statements(self):
        for where, node in nodes((ast.Global, ast.AsyncFunctionDef, ast.Await, ast.Div)):
            self.fail(f"{where} {type(node).__name__}")

    def test_calls(self):
        # The package has classes with __eq__, so these take lists and there is no xs.sort().
        takers = ("any", "all", "min", "max", "sum", "sorted")
        for where, node in nodes(ast.Call):
            if isinstance(node.func, ast.Attribute):
                self.assertNotEqual(node.func.attr, "sort", where)
            elif isinstance(node.func, ast.Name) and node.func.id in takers:
                generators = [arg for arg in node.args if isinstance(arg, ast.GeneratorExp)]
                self.assertEqual(generators, [], where)

    def test_numbers(self):
        for where, node in nodes(ast.Constant):
            self.assertNotIsInstance(node.value, (float, complex), where)


class TestInterface(unittest.TestCase):

    def test_functions(self):
        for module, listed in INTERFACE.items():
            for line in listed:
                function = getattr(module, line.split("(")[0])
                self.assertEqual(function.__name__ + str(inspect.signature(function)), line)
                self.assertEqual(function.__module__, module.__name__)

    def test_classes(self):
        for owner in METHODS:
            module = {"Book": books, "Store": stores, "Deal": deals, "State": wires, "Kept": kept,
                      "Call": calls, "Noise": noise, "House": house}[owner.__name__]
            self.assertEqual(owner.__module__, module.__name__)

    def test_methods(self):
        for owner, listed in METHODS.items():
            for line in listed:
                method = vars(owner)[line.split("(")[0]]
                found = str(inspect.signature(method)).replace(" ", "")
                self.assertEqual(method.__name__ + found, line)

    def test_attributes_are_set_at_once(self):
        book = books.Book(2, [])
        made = [(book, "dim size"), (stores.Store(book, ((0, 1),)), "book disks"),
                (deals.Deal(book, {"a": ()}, {"b": ()}), "book hands secrets told"),
                (wires.State(1, [(0, (0,), ())]), "wires"), (kept.Kept(1, []), "kept wires"),
                (calls.Call(1, (((), (), ()),)), "blocks hearers"), (noise.Noise(book, [()]), "book patterns"),
                (house.House(book, ()), "asked book fallen seen")]
        for thing, listed in made:
            # Those that begin with a line, and the masks, are the package's own.
            found = [name for name in vars(thing) if name[0] != "_" and name != "masks"]
            self.assertEqual(sorted(found), listed.split())
        self.assertEqual(vars(errors.BadLot(3)), {"what": 3})


if __name__ == "__main__":
    unittest.main()
