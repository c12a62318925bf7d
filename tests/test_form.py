"""LANGUAGE.md and the interface: the form of the package, as far as a reading of its files can tell."""

import ast
import builtins
import os
import re
import sys
import unittest

ROOT = os.path.dirname(os.path.dirname(os.path.abspath(__file__)))
PACKAGE = os.path.join(ROOT, "imagetones")

INTERFACE = {
    "errors": {"ToneError": None, "InvalidSignal": None, "InvalidDial": None, "InvalidTone": None,
               "InvalidBand": None, "InvalidNumber": None, "Impossible": None, "NothingToUndo": None,
               "InvalidCommand": None, "InvalidReceiver": ["index"], "InvalidLooks": ["index"],
               "InvalidSignals": ["index"], "InvalidSyntax": ["word"]},
    "receivers": {"is_receiver": ["value"], "tone_at": ["receiver", "dial", "signal"],
                  "stage_tones": ["receiver", "dial", "signal"]},
    "slopes": {"mixed_slopes": ["receiver", "dial"], "slopes_at": ["receiver", "dial", "signal"],
               "count_slopes": ["receiver", "dial", "far"], "nth_slope": ["receiver", "dial", "index"]},
    "heard": {"next_heard": ["receiver", "dial", "band", "signal"],
              "last_heard": ["receiver", "dial", "band", "signal"],
              "count_heard": ["receiver", "dial", "band", "far"],
              "nth_heard": ["receiver", "dial", "band", "index"]},
    "images": {"image_rows": ["receiver", "dial", "tone"], "image_count": ["receiver", "dial", "signal", "far"],
               "next_image": ["receiver", "dial", "signal"]},
    "alike": {"first_unlike": ["receiver", "other", "dial"], "next_unlike": ["receiver", "other", "dial", "signal"],
              "idle_stages": ["receiver", "dial"], "trimmed_receiver": ["receiver", "dial"]},
    "dials": {"next_dial": ["receiver", "signal", "band", "dial"], "last_dial": ["receiver", "signal", "band", "dial"],
              "count_dials": ["receiver", "signal", "band", "least", "greatest"]},
    "clashes": {"next_clash": ["receiver", "one", "other", "dial"],
                "count_clashes": ["receiver", "one", "other", "least", "greatest"]},
    "scans": {"first_stop": ["receiver", "signals", "band", "dial", "step"],
              "count_stops": ["receiver", "signals", "band", "dial", "step", "many"],
              "heard_there": ["receiver", "signals", "band", "dial"]},
    "looks": {"next_fit": ["receiver", "looks", "signal"], "count_fits": ["receiver", "looks", "far"],
              "nth_fit": ["receiver", "looks", "index"], "clashing_looks": ["receiver", "looks"]},
    "parting": {"parting_dial": ["receiver", "one", "other", "dial"],
                "parting_way": ["receiver", "one", "other", "dial"]},
    "live": {"LiveScanner": ["receiver"]},
    "texts": {"format_receiver": ["receiver"], "format_looks": ["looks"], "parse_receiver": ["text"],
              "parse_looks": ["text"]},
    "console": {"Console": []},
}
CLASSES = {
    "LiveScanner": {"tune": ["dial"], "set_step": ["step"], "go": ["many"], "switch": ["signal"], "seek": ["band"],
                    "undo": [], "fork": [], "__len__": [], "__eq__": ["other"]},
    "Console": {"execute": ["command"]},
}
PROPERTIES = {"LiveScanner": ["dial", "step", "stations", "tones", "log"], "Console": []}
LIBRARY = {"heapq": {"heappush", "heappop", "heapify", "heapreplace", "heappushpop"},
           "math": {"gcd", "lcm", "isqrt", "comb", "perm", "factorial"},
           "itertools": {"product", "combinations", "permutations", "chain", "accumulate", "pairwise", "islice",
                         "zip_longest"},
           "collections": {"defaultdict", "deque"}}
BUILTINS = set("""len range enumerate zip min max sum abs sorted reversed int str bool bytes list tuple dict set
    frozenset isinstance ord repr any all divmod pow getattr hasattr setattr iter next map super property staticmethod
    classmethod type Exception ValueError TypeError KeyError IndexError LookupError ZeroDivisionError ArithmeticError
    OverflowError RuntimeError NotImplementedError AttributeError StopIteration NotImplemented object""".split())
METHODS = set("""append clear copy count endswith extend find get index insert isalnum isalpha isdigit islower isspace
    isupper items join keys ljust lower lstrip partition pop remove replace reverse rfind rjust rpartition rsplit
    rstrip setdefault split splitlines startswith strip update upper values zfill bit_length add discard sort
    format""".split())
BARRED = set("""register mro elements open input law version_info with_traceback add_note attrgetter breakpoint
    builtins compile copyright credits delattr dir eval exec exit gc globals help id importlib license locals
    methodcaller os quit vars typing enum Enum IntEnum namedtuple NamedTuple dataclass ABC Generic Protocol
    chr float complex hash print""".split())
SPECIAL = {"__init__", "__eq__", "__repr__", "__str__", "__len__", "__enter__", "__exit__", "__call__", "__iter__"}
BARRED_NODES = (ast.AsyncFunctionDef, ast.AsyncFor, ast.AsyncWith, ast.Await, ast.Div, ast.MatMult, ast.AnnAssign,
                ast.TryStar, ast.MatchMapping)


def sources():
    """Pairs of a module's name and its text."""
    found = {}
    for name in sorted(os.listdir(PACKAGE)):
        if name.endswith(".py"):
            with open(os.path.join(PACKAGE, name), encoding="utf-8") as file:
                found[name[:-3]] = file.read()
    return found


TEXTS = sources()
TREES = {name: ast.parse(text) for name, text in TEXTS.items()}


def nodes(kind):
    """All nodes of a kind, each with the name of its module."""
    return [(name, node) for name, tree in TREES.items() for node in ast.walk(tree) if isinstance(node, kind)]


def defined_in(name):
    return {node.name: node for node in TREES[name].body if isinstance(node, (ast.FunctionDef, ast.ClassDef))}


def bound_in(tree):
    """All names that a file binds anywhere."""
    found = {node.id for node in ast.walk(tree) if isinstance(node, ast.Name) and not isinstance(node.ctx, ast.Load)}
    found |= {node.arg for node in ast.walk(tree) if isinstance(node, ast.arg)}
    found |= {node.name for node in ast.walk(tree) if isinstance(node, (ast.FunctionDef, ast.ClassDef))}
    found |= {alias.name for node in ast.walk(tree) if isinstance(node, ast.ImportFrom) for alias in node.names}
    found |= {node.name for node in ast.walk(tree) if isinstance(node, ast.ExceptHandler) and node.name}
    return found


class Files(unittest.TestCase):
    def test_the_folder_holds_only_plain_files(self):
        for name in os.listdir(PACKAGE):
            if name != "__pycache__":
                self.assertRegex(name, r"^[a-z0-9_]+\.py$")
                self.assertNotIn(name[:-3], set(sys.stdlib_module_names) | set(dir(builtins)) | BARRED)
        self.assertIn("__init__", TEXTS)

    def test_sizes_and_characters(self):
        for name, text in TEXTS.items():
            lines = text.split("\n")
            self.assertLessEqual(len(lines), 399, name)
            for line in lines:
                self.assertLessEqual(len(line), 120, name)
                self.assertTrue(all(" " <= sign <= "~" for sign in line), (name, line))

    def test_functions_have_at_most_40_lines(self):
        for name, node in nodes(ast.FunctionDef):
            self.assertLessEqual(node.end_lineno - node.lineno + 1, 40, (name, node.name))

    def test_module_level(self):
        plain = (ast.ImportFrom, ast.FunctionDef, ast.ClassDef, ast.Assign)
        for name, tree in TREES.items():
            self.assertIsNotNone(ast.get_docstring(tree), name)
            bound = []
            for node in tree.body[1:]:
                self.assertIsInstance(node, plain, name)
                if isinstance(node, ast.Assign):
                    self.assertIsInstance(node.targets[0], ast.Name)
                    self.assertEqual(len(node.targets), 1)
                    self.assertFalse([part for part in ast.walk(node.value) if isinstance(part, ast.Call)])
                    bound.append(node.targets[0].id)
                elif isinstance(node, ast.ImportFrom):
                    bound.extend(alias.name for alias in node.names)
                else:
                    bound.append(node.name)
            self.assertEqual(len(bound), len(set(bound)), name)


class Imports(unittest.TestCase):
    def test_imports_name_the_file_that_defines_the_name(self):
        self.assertEqual(nodes(ast.Import), [])
        for name, node in nodes(ast.ImportFrom):
            self.assertEqual(node.level, 0, name)
            words = node.module.split(".")
            names = {alias.name for alias in node.names}
            self.assertTrue(all(alias.asname is None for alias in node.names))
            if words[0] in LIBRARY:
                self.assertLessEqual(names, LIBRARY[node.module], name)
            else:
                self.assertEqual(words[0], "imagetones", name)
                own = bound_in(ast.Module([part for part in TREES[words[1]].body
                                           if not isinstance(part, ast.ImportFrom)], []))
                self.assertLessEqual(names, own, name)

    def test_no_two_files_import_from_each_other(self):
        needs = {name: {node.module.split(".")[1] for node in tree.body if isinstance(node, ast.ImportFrom)
                        and node.module.startswith("imagetones.")} for name, tree in TREES.items()}
        self.assertEqual(needs["__init__"], set())
        left = dict(needs)
        while left:
            free = [name for name, others in left.items() if not others & set(left)]
            self.assertTrue(free, left)
            left = {name: others for name, others in left.items() if name not in free}


class Code(unittest.TestCase):
    def test_no_barred_statements_and_values(self):
        self.assertEqual(nodes(BARRED_NODES), [])
        for name, node in nodes(ast.Constant):
            self.assertIn(type(node.value), (int, str, bytes, bool, type(None)), name)
            if isinstance(node.value, str):
                self.assertFalse("%" in node.value or re.search(r"^__.*__$", node.value), (name, node.value))

    def test_names(self):
        for name, tree in TREES.items():
            bound = bound_in(tree)
            self.assertFalse((bound - SPECIAL) & (set(dir(builtins)) | BARRED), name)
            for word in bound - SPECIAL:
                self.assertRegex(word, r"^(_|_?[A-Za-z][A-Za-z0-9_]*)$", name)
            for node in ast.walk(tree):
                if isinstance(node, ast.Name) and isinstance(node.ctx, ast.Load):
                    self.assertIn(node.id, (bound | BUILTINS) - {"_"}, name)

    def test_imported_names_and_classes_are_not_hidden(self):
        for name, tree in TREES.items():
            taken = {alias.name for node in tree.body if isinstance(node, ast.ImportFrom) for alias in node.names}
            taken |= {node.name for node in tree.body if isinstance(node, ast.ClassDef)}
            found = {node.id for node in ast.walk(tree) if isinstance(node, ast.Name)
                     and not isinstance(node.ctx, ast.Load)}
            found |= {node.arg for node in ast.walk(tree) if isinstance(node, ast.arg)}
            self.assertFalse(taken & found, name)

    def test_special_methods_and_decorators(self):
        for name, node in nodes(ast.FunctionDef):
            if node.name.startswith("__"):
                self.assertIn(node.name, SPECIAL, name)
            for mark in node.decorator_list:
                self.assertIn(ast.unparse(mark).split(".")[-1], ("property", "setter", "staticmethod", "classmethod"))
            self.assertIsNone(node.returns)

    def test_methods_of_builtin_values(self):
        own = {node.name for _, node in nodes(ast.FunctionDef)}
        for name, node in nodes(ast.Call):
            if isinstance(node.func, ast.Attribute):
                self.assertIn(node.func.attr, METHODS | own, name)

    def test_is_stands_beside_none_true_and_false(self):
        for name, node in nodes(ast.Compare):
            for sign, side in zip(node.ops, node.comparators):
                if isinstance(sign, (ast.Is, ast.IsNot)):
                    self.assertIsInstance(side, ast.Constant, name)
                    self.assertIn(side.value, (None, True, False), name)

    def test_handlers_and_raises_name_errors(self):
        own = set(defined_in("errors"))
        for name, node in nodes(ast.ExceptHandler):
            kinds = node.type.elts if isinstance(node.type, ast.Tuple) else [node.type]
            self.assertLessEqual({kind.id for kind in kinds}, own | {"KeyError", "ZeroDivisionError"}, name)
        for name, node in nodes(ast.Raise):
            if node.exc is not None:
                self.assertIn(node.exc.func.id, own, name)

    def test_exponents_are_small_literals(self):
        for name, node in nodes(ast.BinOp):
            if isinstance(node.op, ast.Pow):
                self.assertIsInstance(node.right, ast.Constant, name)
                self.assertIn(node.right.value, range(65), name)


class Changes(unittest.TestCase):
    """What a reading tells of the rules over generators, kept sets and what properties may call."""

    def test_no_generators_beside_a_class_that_compares(self):
        self.assertEqual(nodes((ast.GeneratorExp, ast.Yield, ast.YieldFrom, ast.Global, ast.Nonlocal)), [])

    def test_sets_stand_only_in_sorted(self):
        inner = {id(node.args[0]) for _, node in nodes(ast.Call)
                 if isinstance(node.func, ast.Name) and node.func.id == "sorted"}
        for name, node in nodes((ast.Set, ast.SetComp)):
            self.assertIn(id(node), inner, name)
        for name, node in nodes(ast.Call):
            if isinstance(node.func, ast.Name) and node.func.id in ("set", "frozenset"):
                self.assertIn(id(node), inner, name)

    def test_special_methods_and_properties_only_tell(self):
        for name, node in nodes(ast.FunctionDef):
            marks = [ast.unparse(mark) for mark in node.decorator_list]
            if node.name in ("__eq__", "__len__") or marks:
                kinds = [type(part) for part in node.body]
                self.assertLessEqual(set(kinds), {ast.Expr, ast.Assign, ast.Return}, node.name)
                targets = [part.ctx for part in ast.walk(node) if isinstance(part, (ast.Attribute, ast.Subscript))]
                self.assertTrue(all(isinstance(ctx, ast.Load) for ctx in targets), node.name)

    def test_keywords_of_builtins(self):
        right = {"sorted": {"key", "reverse"}, "min": {"key", "default"}, "max": {"key", "default"},
                 "sum": {"start"}, "enumerate": {"start"}, "zip": {"strict"}}
        for name, node in nodes(ast.Call):
            if isinstance(node.func, ast.Name) and node.func.id in dir(builtins):
                self.assertLessEqual({word.arg for word in node.keywords}, right.get(node.func.id, set()), name)

    def test_module_level_tables_hold_no_lists(self):
        for name, tree in TREES.items():
            for node in tree.body:
                if isinstance(node, ast.Assign):
                    inner = [part for part in ast.walk(node.value) if isinstance(part, (ast.List, ast.Dict, ast.Set))]
                    self.assertLessEqual(len(inner), 1, name)
                    self.assertTrue(not inner or inner[0] is node.value, name)


class Interface(unittest.TestCase):
    def test_each_name_is_defined_in_its_file_with_its_arguments(self):
        for module, names in INTERFACE.items():
            found = defined_in(module)
            for name, arguments in names.items():
                self.assertIn(name, found, module)
                node = found[name]
                if isinstance(node, ast.ClassDef):
                    makers = [part for part in node.body if isinstance(part, ast.FunctionDef)
                              and part.name == "__init__"]
                    told = [part.arg for part in makers[0].args.args[1:]] if makers else None
                else:
                    told = [part.arg for part in node.args.args]
                self.assertEqual(told, arguments, name)

    def test_each_method_and_property_is_defined_in_its_class(self):
        classes = {node.name: node for _, node in nodes(ast.ClassDef)}
        for name, methods in CLASSES.items():
            found = {part.name: part for part in classes[name].body if isinstance(part, ast.FunctionDef)}
            for method, arguments in methods.items():
                self.assertEqual([part.arg for part in found[method].args.args[1:]], arguments, method)
                self.assertEqual(found[method].decorator_list, [], method)
            for word in PROPERTIES[name]:
                self.assertEqual([ast.unparse(mark) for mark in found[word].decorator_list], ["property"], word)
            public = {word for word in found if not word.startswith("_")}
            self.assertEqual(public, {word for word in methods if not word.startswith("_")} | set(PROPERTIES[name]))

    def test_there_is_nothing_else_to_call_under_the_names_of_the_interface(self):
        for module, names in INTERFACE.items():
            public = {name for name in defined_in(module) if not name.startswith("_")}
            self.assertEqual(public, set(names), module)


if __name__ == "__main__":
    unittest.main()
