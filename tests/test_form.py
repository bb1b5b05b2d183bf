"""The form of the package: its interface, and what ../shared/LANGUAGE.md says that a test can see."""

import ast
import importlib
import inspect
import pathlib
import unittest
import warnings

FOLDER = pathlib.Path(__file__).resolve().parent.parent / "nextguess"
FILES = sorted(FOLDER.glob("*.py"))

INTERFACE = {
    "shares": {
        "is_share": ["value"], "share_of": ["a", "b"], "plus": ["one", "other"], "less": ["one", "other"],
        "times": ["one", "other"], "over": ["one", "other"], "is_below": ["one", "other"], "total_of": ["shares"],
        "rounded_up": ["one"],
    },
    "rows": {
        "is_row": ["value", "size"], "all_rows": ["size"], "is_lot": ["value", "size"], "all_lots": ["size"],
        "read_at": ["row", "lot"],
    },
    "texts": {"write_rules": ["rules"], "read_rules": ["text"]},
    "freedom": {
        "is_free": ["rules", "lot"], "is_strongly_free": ["rules", "lot"], "free_lots": ["rules"],
        "strong_lots": ["rules"], "dimension": ["rules"], "lots_up_to": ["size", "d"], "dimension_paper": ["rules"],
        "dimension_holds": ["rules", "claim", "paper"],
    },
    "pushing": {"pushed_at": ["rules", "point"], "is_down": ["rules"], "pushed_down": ["rules"]},
    "webs": {"ties_of": ["rules"], "ties_within": ["rules", "part"]},
    "guesses": {
        "misses_of": ["rules", "guess"], "least_worst": ["rules"], "best_guess": ["rules"], "misses_paper": ["rules"],
        "misses_holds": ["rules", "claim", "paper"],
    },
    "drawn": {
        "means_of": ["rules", "drawn"], "least_mean": ["rules"], "best_drawn": ["rules"], "mean_paper": ["rules"],
        "mean_holds": ["rules", "claim", "paper"],
    },
    "sources": {
        "is_source": ["value", "size"], "chance_of_lot": ["source", "lot", "m"],
        "miss_chance": ["guesser", "row", "source", "m"], "last_miss_chance": ["guesser", "row", "lot"],
        "miss_bound": ["rules", "m"], "examples_enough": ["rules", "chance"], "unavoidable": ["d", "m"],
    },
    "weighed": {
        "chances_of": ["rules", "source", "drawn"], "least_chance": ["rules", "source"],
        "best_weighed": ["rules", "source"], "chance_paper": ["rules", "source"],
        "chance_holds": ["rules", "source", "claim", "paper"],
    },
    "priors": {
        "is_prior": ["rules", "value"], "expected_misses": ["rules", "prior", "drawn"],
        "least_expected": ["rules", "prior"], "guess_by_prior": ["rules", "prior"], "hardest_prior": ["rules"],
    },
    "keeping": {
        "rebuilt": ["rules", "kept"], "keeps": ["rules", "row", "lot", "kept"], "fewest_kept": ["rules", "row", "lot"],
        "most_kept": ["rules"],
    },
    "followers": {
        "worst_hidden": ["rules", "row", "lot", "hidden"], "chance_of_wrong": ["rules", "row", "lot", "s", "r"],
        "wrong_bound": ["rules", "row", "lot", "s", "r"],
    },
    "lies": {"near": ["rules", "lies"]},
    "kinds": {
        "are_points": ["kind", "value"], "rules_cut": ["kind", "points"], "most_free": ["kind", "c"],
    },
    "bars": {
        "bar_for": ["kind", "points", "row"], "bar_holds": ["kind", "points", "row", "reason"],
    },
    "teaching": {
        "tells": ["rules", "row", "lot"], "telling_lots": ["rules", "row"], "hardest": ["rules"],
    },
    "questions": {
        "is_question": ["rules", "value"], "answer_of": ["rules", "question"], "paper_of": ["rules", "question"],
        "claim_holds": ["rules", "question", "claim", "paper"],
    },
    "histories": {
        "told": ["value"], "untold": ["text"], "write_history": ["desk"], "history_holds": ["text"],
        "relived": ["text"],
    },
    "lotwise": {
        "misses_at": ["rules", "lot"], "mean_at": ["rules", "lot"], "most_misses": ["rules", "m"],
        "most_mean": ["rules", "m"],
    },
}

METHODS = {
    ("lists", "Rules"): {
        "__init__": ["size", "rows"], "__eq__": ["other"], "__len__": [], "has": ["row"], "seen_at": ["lot"],
        "turned": ["row"], "both": ["other"], "either": ["other"], "unlike": ["other"], "beside": ["other"],
        "with_rule": ["row"], "without": ["row"], "others": [], "is_closed": [], "is_shown": ["value"],
        "fitting": ["shown"],
    },
    ("guessers", "Guesser"): {
        "__init__": ["rules", "kind"], "__eq__": ["other"], "yes": ["shown", "point"], "misses": ["lot", "row"],
    },
    ("desk", "Desk"): {
        "__init__": ["rules"], "now": [], "move": ["move"], "undo": [], "redo": [], "done": [], "watch": ["question"],
        "leave": ["question"], "watched": [], "claim": ["question"], "paper_for": ["question"],
    },
}

BUILTINS = (
    "len range enumerate zip min max sum abs sorted reversed int str bool bytes list tuple dict set isinstance ord repr "
    "any all divmod super ValueError"
).split()
VALUE_METHODS = "append count extend find get index insert items join keys partition pop split startswith strip values".split()
BARRED_WORDS = (
    "register mro elements open input law version_info with_traceback add_note compile copyright credits dir eval exec "
    "exit gc globals help id importlib license locals os quit vars sys enum typing format type"
).split()
LIBRARY = {
    "math": ("gcd", "lcm", "isqrt", "comb", "perm", "factorial"),
    "itertools": ("product", "combinations", "permutations"),
}
BARRED_NODES = (
    ast.Global, ast.AsyncFunctionDef, ast.Div, ast.GeneratorExp, ast.Yield, ast.YieldFrom, ast.Set, ast.Try, ast.With,
    ast.Match, ast.Lambda, ast.NamedExpr,
)


def trees():
    """Each file of the package with what it is parsed to."""
    return [(path, ast.parse(path.read_text(encoding="utf-8"))) for path in FILES]


def nodes_of(kind):
    """All nodes of a kind, each with its file."""
    return [(path, node) for path, tree in trees() for node in ast.walk(tree) if isinstance(node, kind)]


def imported_by(tree):
    """The modules of the package that a file imports from."""
    found = [node.module for node in ast.walk(tree) if isinstance(node, ast.ImportFrom)]
    return {module.split(".")[1] for module in found if module not in LIBRARY}


class Interface(unittest.TestCase):
    def test_functions_stand_in_their_files(self):
        for module, functions in INTERFACE.items():
            for name, parameters in functions.items():
                found = getattr(importlib.import_module(f"nextguess.{module}"), name)
                self.assertEqual(found.__module__, f"nextguess.{module}")
                self.assert_parameters(found, parameters)

    def test_methods_stand_in_their_classes(self):
        for (module, name), methods in METHODS.items():
            found = getattr(importlib.import_module(f"nextguess.{module}"), name)
            self.assertEqual(found.__module__, f"nextguess.{module}")
            for method, parameters in methods.items():
                self.assertIn(method, vars(found))
                self.assert_parameters(vars(found)[method], ["self"] + parameters)

    def assert_parameters(self, function, parameters):
        found = inspect.signature(function).parameters.values()
        self.assertEqual([parameter.name for parameter in found], parameters, function)
        kinds = {(parameter.kind, parameter.default) for parameter in found}
        self.assertLessEqual(kinds, {(inspect.Parameter.POSITIONAL_OR_KEYWORD, inspect.Parameter.empty)})


class Form(unittest.TestCase):
    def test_no_two_files_import_from_each_other(self):
        left = {path.stem: imported_by(tree) for path, tree in trees()}
        while left:
            ready = [name for name, imported in left.items() if not imported & set(left)]
            self.assertTrue(ready, left)
            left = {name: imported for name, imported in left.items() if name not in ready}

    def test_methods_of_builtin_values(self):
        own = {node.name for _, place in nodes_of(ast.ClassDef) for node in place.body if isinstance(node, ast.FunctionDef)}
        for path, node in nodes_of(ast.Call):
            if isinstance(node.func, ast.Attribute):
                self.assertIn(node.func.attr, set(VALUE_METHODS) | own, (path, node.lineno))

    def test_no_barred_words(self):
        for path, tree in trees():
            for node in ast.walk(tree):
                for name in ("id", "attr", "arg", "name"):
                    self.assertNotIn(getattr(node, name, None), BARRED_WORDS, (path, getattr(node, "lineno", 0)))

    def test_the_folder_holds_plain_files_only(self):
        names = [path.name for path in FOLDER.iterdir() if path.name != "__pycache__"]
        self.assertEqual(sorted(names), [path.name for path in FILES])
        self.assertIn("__init__.py", names)

    def test_sizes_and_signs(self):
        for path in FILES:
            text = path.read_bytes().decode("ascii")
            self.assertLessEqual({sign for sign in text if not " " <= sign <= "~"}, {"\n"}, path)
            lines = text.split("\n")
            self.assertLessEqual(len(lines), 399, path)
            self.assertLessEqual(max(len(line) for line in lines), 120, path)
        for path, node in nodes_of(ast.FunctionDef):
            self.assertLessEqual(node.end_lineno - node.lineno + 1, 40, (path, node.name))

    def test_no_warnings(self):
        with warnings.catch_warnings():
            warnings.simplefilter("error")
            for path in FILES:
                compile(path.read_text(encoding="utf-8"), str(path), "exec")

    def test_imports_name_the_defining_file(self):
        self.assertEqual(nodes_of(ast.Import), [])
        for path, node in nodes_of(ast.ImportFrom):
            names = [alias.name for alias in node.names]
            self.assertEqual([alias.asname for alias in node.names], [None] * len(names))
            self.assertEqual(node.level, 0)
            if node.module in LIBRARY:
                self.assertLessEqual(set(names), set(LIBRARY[node.module]), path)
            else:
                package, module = node.module.split(".")
                self.assertEqual(package, "nextguess")
                self.assertLessEqual(set(names), self.bound_in(module), path)

    def bound_in(self, module):
        bound = set()
        for node in ast.parse((FOLDER / f"{module}.py").read_text(encoding="utf-8")).body:
            if isinstance(node, (ast.FunctionDef, ast.ClassDef)):
                bound.add(node.name)
            elif isinstance(node, ast.Assign):
                bound.update(target.id for target in node.targets)
        return bound

    def test_nothing_that_the_package_does_without(self):
        for path, node in nodes_of(BARRED_NODES):
            self.fail(f"{path}: {node.lineno}: {node.__class__.__name__}")
        for path, node in nodes_of(ast.Constant):
            self.assertNotIsInstance(node.value, (float, complex), path)
        for path, node in nodes_of((ast.FunctionDef, ast.ClassDef)):
            self.assertEqual(node.decorator_list, [], path)

    def test_builtins_are_the_allowed_ones(self):
        # Examples that ran in this process may have left a value under the name _.
        known = set(dir(importlib.import_module("builtins"))) - {"_"}
        for path, node in nodes_of(ast.Name):
            if node.id in known:
                self.assertIn(node.id, BUILTINS, (path, node.lineno))
                self.assertIsInstance(node.ctx, ast.Load, (path, node.lineno))
        for path, node in nodes_of(ast.arg):
            self.assertNotIn(node.arg, known, (path, node.lineno))

    def test_names_are_bound_once_and_not_hidden(self):
        for path, tree in trees():
            bound = [node.name for node in tree.body if isinstance(node, (ast.FunctionDef, ast.ClassDef))]
            bound += [target.id for node in tree.body if isinstance(node, ast.Assign) for target in node.targets]
            imported = [alias.name for node in tree.body if isinstance(node, ast.ImportFrom) for alias in node.names]
            classes = [node.name for node in tree.body if isinstance(node, ast.ClassDef)]
            self.assertEqual(len(bound + imported), len(set(bound + imported)), path)
            local = {node.arg for node in ast.walk(tree) if isinstance(node, ast.arg)}
            for function in ast.walk(tree):
                if isinstance(function, ast.FunctionDef):
                    local |= {node.id for node in ast.walk(function)
                              if isinstance(node, ast.Name) and isinstance(node.ctx, ast.Store)}
            self.assertEqual(local & set(imported + classes), set(), path)

    def test_every_function_says_what_it_does(self):
        for path, node in nodes_of((ast.FunctionDef, ast.ClassDef, ast.Module)):
            name = getattr(node, "name", "a module")
            if not name.startswith("__"):
                self.assertTrue(ast.get_docstring(node), (path, name))
