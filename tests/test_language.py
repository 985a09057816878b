"""What of the form of the code can be told from the text alone; the package keeps to a small part of Python."""

import ast
import pathlib
import unittest

PACKAGE = pathlib.Path(__file__).resolve().parent.parent / "letinside"
FILES = {path.name: path.read_text(encoding="utf-8") for path in sorted(PACKAGE.glob("*.py"))}
TREES = {name: ast.parse(text) for name, text in FILES.items()}

BUILTINS = """len range enumerate zip min max sum abs sorted reversed int str bool list tuple dict set isinstance ord repr
any all divmod ValueError KeyError property""".split()
METHODS = """append clear copy count endswith extend find get index insert isalnum isalpha isdigit islower isspace isupper
items join keys ljust lower lstrip partition pop remove replace reverse rfind rjust rpartition rsplit rstrip setdefault
split splitlines startswith strip update upper values zfill bit_length add discard""".split()
BARRED = (ast.Global, ast.Nonlocal, ast.AsyncFunctionDef, ast.Await, ast.Yield, ast.YieldFrom, ast.GeneratorExp,
          ast.Lambda, ast.Div, ast.JoinedStr, ast.NamedExpr, ast.With, ast.Match, ast.Starred, ast.AnnAssign)
INTERFACE = {
    "errors.py": """HouseError Wrong NoRule Twice Strange NoDoor NoDeed NoGuest NotHeld NotDone Never NoCall Unlike
        NotFirst NoText NoEdit Idle Opened Nothing Stopped NoCommand""",
    "kinds.py": "is_integer is_name are_names is_wish is_deed",
    "gates.py": "Gate",
    "houses.py": "House",
    "stands.py": "first_stand is_stand names_held has within",
    "doing.py": "done told can_do is_turn led deeds_at",
    "growing.py": "grown is_grown growth lots",
    "nodes.py": "next_nodes nodes turns_to way_to",
    "reach.py": "can fewest play_for is_play_for",
    "fences.py": "fence is_fence",
    "ends.py": "ever most_held apart",
    "least.py": "actor_lots bringing barring",
    "needed.py": "followed idle pruned needed",
    "throws.py": "bars latest late_play is_late_play",
    "latefences.py": "late_fence is_late_fence",
    "views.py": "is_view shown see_same parting is_parting",
    "pairs.py": "pairs are_pairs",
    "folding.py": "state_lots folded folded_house",
    "codes.py": "is_code letter size depth is_case ran",
    "needing.py": "do_same parting_case is_parting_case needs need_case is_need_case plain",
    "visits.py": "made alone misled mislead is_mislead asked_can visit_play is_visit_play",
    "facets.py": "faceted",
    "narrowed.py": "choice_house keeps_out weakest",
    "notation.py": "show_gate show_house show_deed show_deeds show_wish show_stand show_code",
    "readers.py": "read_gate read_house read_deed read_deeds read_wish read_stand read_code",
    "books.py": "Book",
    "desk.py": "Desk",
}
CLASSES = {
    "Gate": "__init__ __eq__ states doors closet rules kind_of rule_for call without_rule with_rule renamed",
    "House": """__init__ __eq__ guests things doors objects gates first gate_of with_first with_gate without_rule
        renamed""",
    "Book": "__init__ __eq__ __len__ house acting do bans log back again copied trial margin",
    "Desk": "__init__ execute book",
}


def every(kind):
    """All parts of this kind, with the names of their files."""
    return [(name, node) for name, tree in TREES.items() for node in ast.walk(tree) if isinstance(node, kind)]


def is_plain(thing):
    """Whether a value may stand at module level: a number, a string, or a tuple, list or dict of such and of tuples."""
    if isinstance(thing, dict):
        thing = list(thing) + list(thing.values())
    return isinstance(thing, (int, str)) or all(is_plain(part) and not isinstance(part, (list, dict)) for part in thing)


class LanguageTest(unittest.TestCase):
    def test_the_folder_holds_files_alone(self):
        found = [path.name for path in PACKAGE.iterdir() if path.name != "__pycache__"]
        self.assertEqual(sorted(found), sorted(FILES))
        self.assertIn("__init__.py", found)

    def test_sizes_and_signs(self):
        for name, text in FILES.items():
            self.assertLessEqual(len(text.splitlines()), 399, name)
            for line in text.splitlines():
                self.assertLessEqual(len(line), 120, line)
            self.assertTrue(all(sign == "\n" or " " <= sign <= "~" for sign in text), name)
        for name, node in every(ast.FunctionDef):
            self.assertLessEqual(node.end_lineno - node.lineno + 1, 40, (name, node.name))

    def test_imports(self):
        names = {f"letinside.{name[:-3]}" for name in FILES}
        self.assertEqual(every(ast.Import), [])
        for name, node in every(ast.ImportFrom):
            self.assertEqual(node.level, 0)
            self.assertIn(node.module, names, name)
            own = [part.name for part in TREES[node.module[10:] + ".py"].body if hasattr(part, "name")]
            for alias in node.names:
                self.assertIn(alias.name, own, name)
                self.assertIsNone(alias.asname)

    def test_imports_go_one_way(self):
        above = {name: [node.module[10:] + ".py" for _, node in every(ast.ImportFrom) if _ == name] for name in FILES}
        done = []
        while len(done) < len(above):
            ready = [name for name in above if name not in done and all(part in done for part in above[name])]
            self.assertNotEqual(ready, [])
            done.extend(ready)

    def test_barred_forms(self):
        self.assertEqual([(name, node.lineno) for name, node in every(BARRED)], [])
        for name, node in every(ast.Compare):
            for sign, other in zip(node.ops, node.comparators):
                if isinstance(sign, (ast.Is, ast.IsNot)):
                    self.assertIsInstance(other, ast.Constant, name)
        for name, node in every(ast.FunctionDef):
            decorators = [part.id for part in node.decorator_list]
            self.assertIn(decorators, [[], ["property"]], name)
        for name, node in every(ast.ExceptHandler):
            self.assertIsNotNone(node.type, name)

    def test_names_read_are_known(self):
        for name, tree in TREES.items():
            bound = {node.id for node in ast.walk(tree) if isinstance(node, ast.Name) and not
                     isinstance(node.ctx, ast.Load)}
            bound |= {node.arg for node in ast.walk(tree) if isinstance(node, ast.arg)}
            bound |= {node.name for node in ast.walk(tree) if isinstance(node, ast.ExceptHandler) and node.name}
            bound |= {node.name for node in ast.walk(tree) if isinstance(node, (ast.FunctionDef, ast.ClassDef))}
            imported = {alias.name for node in ast.walk(tree) if isinstance(node, ast.ImportFrom)
                        for alias in node.names}
            read = {node.id for node in ast.walk(tree) if isinstance(node, ast.Name) and isinstance(node.ctx, ast.Load)}
            self.assertLessEqual(read, bound | imported | set(BUILTINS), name)
            self.assertLessEqual(imported, read, name)
            self.assertFalse(bound & imported, name)
            self.assertNotIn("_", read, name)
            barred = set(dir(__builtins__) if not isinstance(__builtins__, dict) else __builtins__)
            self.assertFalse((bound - {"_"}) & barred, name)

    def test_methods_called_are_known(self):
        own = {node.name for _, node in every(ast.FunctionDef)}
        for name, node in every(ast.Call):
            if isinstance(node.func, ast.Attribute):
                self.assertIn(node.func.attr, set(METHODS) | own, name)

    def test_strings(self):
        for name, node in every(ast.Constant):
            if isinstance(node.value, str):
                self.assertNotIn("%", node.value, name)

    def test_sets_are_used_at_once(self):
        for name, node in every(ast.AST):
            for part in ast.iter_child_nodes(node):
                called = part.func if isinstance(part, ast.Call) else None
                if isinstance(part, (ast.Set, ast.SetComp)) or isinstance(called, ast.Name) and called.id == "set":
                    self.assertTrue(isinstance(node, ast.Call) and node.func.id in ("len", "sorted"), name)

    def test_module_level(self):
        for name, tree in TREES.items():
            bound = [node.targets[0].id for node in tree.body if isinstance(node, ast.Assign)]
            self.assertEqual(len(bound), len(set(bound)), name)
            for node in tree.body:
                self.assertIsInstance(node, (ast.Expr, ast.ImportFrom, ast.FunctionDef, ast.ClassDef, ast.Assign), name)
                if isinstance(node, ast.Assign):
                    self.assertTrue(is_plain(ast.literal_eval(node.value)), name)
            for node in ast.walk(tree):
                if isinstance(node, (ast.FunctionDef, ast.ClassDef)):
                    self.assertTrue(ast.get_docstring(node) or node.name.startswith("__"), (name, node.name))


class InterfaceTest(unittest.TestCase):
    def test_each_is_defined_in_its_file(self):
        for name, words in INTERFACE.items():
            own = [node.name for node in TREES[name].body if isinstance(node, (ast.FunctionDef, ast.ClassDef))]
            self.assertLessEqual(set(words.split()), set(own), name)

    def test_each_method_is_defined_in_its_class(self):
        for name, node in every(ast.ClassDef):
            own = [part.name for part in node.body if isinstance(part, ast.FunctionDef)]
            self.assertLessEqual(set(CLASSES.get(node.name, "").split()), set(own), name)
            self.assertEqual(len(own), len(set(own)), name)


if __name__ == "__main__":
    unittest.main()
