"""The form of the package's files: those rules of LANGUAGE.md that can be told by looking at a file."""

import ast
import builtins
import inspect
import io
import tokenize
from importlib import import_module
from pathlib import Path
from unittest import TestCase

FOLDER = Path(__file__).resolve().parent.parent / "typingroom"
FILES = sorted(FOLDER.glob("*.py"))
ALLOWED_NODES = (
    ast.Module, ast.FunctionDef, ast.ClassDef, ast.ImportFrom, ast.alias, ast.arguments, ast.arg, ast.Expr, ast.Assign,
    ast.AugAssign, ast.If, ast.While, ast.For, ast.Return, ast.Break, ast.Continue, ast.Pass, ast.Raise, ast.Assert,
    ast.Try, ast.ExceptHandler, ast.Constant, ast.List, ast.Tuple, ast.Dict, ast.Name, ast.Attribute, ast.Subscript,
    ast.Slice, ast.Call, ast.keyword, ast.BinOp, ast.UnaryOp, ast.BoolOp, ast.Compare, ast.IfExp, ast.ListComp,
    ast.DictComp, ast.comprehension, ast.JoinedStr, ast.FormattedValue, ast.Load, ast.Store, ast.Add, ast.Sub,
    ast.Mult, ast.FloorDiv, ast.Mod, ast.USub, ast.Not, ast.And, ast.Or, ast.Eq, ast.NotEq, ast.Lt, ast.LtE, ast.Gt,
    ast.GtE, ast.Is, ast.IsNot, ast.In, ast.NotIn, ast.BitOr, ast.BitAnd, ast.LShift, ast.RShift, ast.Nonlocal,
    ast.Yield, ast.Starred)
BUILTINS = ("len range enumerate zip min max sum abs sorted reversed int str bool bytes list tuple dict set isinstance "
            "ord repr any all divmod Exception ValueError KeyError NotImplemented super iter staticmethod classmethod").split()
SPECIAL = ("__init__ __eq__ __repr__ __str__ __len__ __call__ __iter__ __contains__ __bool__ __add__").split()
METHODS = ("append clear copy count endswith extend find get index insert isalnum isalpha isdigit islower isspace "
           "isupper items join keys ljust lower lstrip partition pop remove replace reverse rfind rjust rpartition "
           "rsplit rstrip setdefault split splitlines startswith strip update upper values zfill bit_length").split()
BARRED = ("type typing typing_extensions enum Enum IntEnum StrEnum Flag IntFlag Generic Protocol ABC ABCMeta namedtuple "
          "NamedTuple TypedDict TYPE_CHECKING abstractmethod dataclass overload contextmanager register mro elements "
          "open input law version_info with_traceback add_note").split()
INTERFACE = {
    "errors": ["TypingError", "BadRoom", "BadType", "BadWords", "BadText", "Dead", "NotWhole", "BadEdit", "BadNumber",
               "BadPlan", "TooLarge"],
    "kinds": ["is_type", "type_text"], "rooms": ["Room"], "roomtexts": ["read_room", "write_room"],
    "words": ["split_text", "join_words"], "checking": ["is_right"],
    "offering": ["broken", "offers", "completions", "Offers", "Finishing", "finish"],
    "holes": ["hole", "is_filling"], "helping": ["meant", "own_types"], "counting": ["endings", "ending", "number_of"],
    "edits": ["Edit", "carried", "shrunk", "answers", "stale"], "editors": ["Editor", "watcher"], "talks": ["Talk"],
    "manyholes": ["holes", "are_fillings"], "rivals": ["Same", "Unlike", "judge_rooms", "needless", "lean_room"],
    "mending": ["Mend", "mend"], "plans": ["Plan", "plan"],
    "meanings": ["meanings", "Clear", "Double", "judge_meanings"], "keeping": ["nodes", "kept", "anew"],
    "moving": ["unused", "told_out", "put_in"],
    "patches": ["Patch", "patch", "behind", "together", "all_together", "Together", "Clash"], "crossing": ["Crossing"]}
OWN_METHODS = {("rooms", "Room"): ["__init__", "__eq__", "__contains__", "is_below"],
               ("offering", "Offers"): ["__init__", "__eq__", "__contains__"],
               ("offering", "Finishing"): ["__init__", "__eq__", "__len__", "shows"],
               ("edits", "Edit"): ["__init__", "__eq__", "__len__", "__bool__", "__call__", "__add__", "growth", "undone"],
               ("editors", "Editor"): ["__init__", "__len__", "__iter__", "__contains__", "__call__", "careful", "gap",
                                       "PLACES", "be_strict", "type_in", "edit", "trial", "keep", "text", "each_offer"],
               ("talks", "Talk"): ["__init__", "__len__", "__iter__", "edit", "ask", "answer", "place", "is_right",
                                   "each_right"],
               ("rivals", "Same"): ["__init__", "__eq__", "__bool__", "shows"],
               ("rivals", "Unlike"): ["__init__", "__eq__", "__bool__", "shows"],
               ("mending", "Mend"): ["__init__", "__eq__", "shows"],
               ("plans", "Plan"): ["__init__", "__eq__", "__len__", "shows"],
               ("meanings", "Clear"): ["__init__", "__eq__", "__bool__", "shows"],
               ("meanings", "Double"): ["__init__", "__eq__", "__bool__", "shows"],
               ("patches", "Patch"): ["__init__", "__eq__", "__len__", "__iter__", "__bool__", "__call__", "edits", "growth"],
               ("patches", "Together"): ["__init__", "__eq__", "__bool__"],
               ("patches", "Clash"): ["__init__", "__eq__", "__bool__"],
               ("crossing", "Crossing"): ["__init__", "__len__", "answer", "rights", "soonest", "always", "spare",
                                          "each_time"]}
LIBRARY = {"heapq": {"heappop", "heappush"}}


def trees():
    return [(path, ast.parse(path.read_text(encoding="utf-8"))) for path in FILES]


def nodes(tree, *kinds):
    return [node for node in ast.walk(tree) if isinstance(node, kinds)]


def is_builtin(name):
    """Whether a name is a builtin's; examples that ran may have left `_` among these."""
    return name != "_" and hasattr(builtins, name)


def imported(tree):
    return {alias.name for node in nodes(tree, ast.ImportFrom) for alias in node.names}


class Files(TestCase):
    def test_the_folder_holds_plain_files_alone(self):
        self.assertIn(FOLDER / "__init__.py", FILES)
        for path in FOLDER.iterdir():
            self.assertTrue(path.suffix == ".py" or path.name == "__pycache__", path)
            self.assertRegex(path.name, r"^([a-z]+\.py|__init__\.py|__pycache__)$")

    def test_characters_and_sizes(self):
        for path in FILES:
            text = path.read_text(encoding="utf-8")
            self.assertTrue(all(" " <= letter <= "~" or letter == "\n" for letter in text), path)
            lines = text.split("\n")
            self.assertLessEqual(len(lines) - 1, 399, path)
            self.assertLessEqual(max(map(len, lines)), 120, path)

    def test_functions_have_at_most_40_lines(self):
        for path, tree in trees():
            for node in nodes(tree, ast.FunctionDef):
                self.assertLessEqual(node.end_lineno - node.lineno + 1, 40, (path, node.name))

    def test_words_that_do_not_occur(self):
        for path in FILES:
            reader = io.StringIO(path.read_text(encoding="utf-8")).readline
            for token in tokenize.generate_tokens(reader):
                if token.type == tokenize.NAME:
                    self.assertNotIn(token.string, BARRED, (path, token.start))


class Statements(TestCase):
    def test_plain_statements_and_expressions_alone(self):
        for path, tree in trees():
            for node in ast.walk(tree):
                if isinstance(node, ast.Set):
                    self.fail((path, node.lineno))
                self.assertIsInstance(node, ALLOWED_NODES, (path, getattr(node, "lineno", 0)))

    def test_module_level(self):
        for path, tree in trees():
            for number, node in enumerate(tree.body):
                allowed = (ast.ImportFrom, ast.FunctionDef, ast.ClassDef, ast.Assign)
                if not (number == 0 and isinstance(node, ast.Expr) and isinstance(node.value, ast.Constant)):
                    self.assertIsInstance(node, allowed, (path, node.lineno))
                if isinstance(node, ast.Assign):
                    self.assertEqual([ast.Name], [target.__class__ for target in node.targets])
                    self.assertEqual(nodes(node.value, ast.Call, ast.ListComp, ast.DictComp), [], (path, node.lineno))

    def test_names_at_module_level_are_bound_once(self):
        for path, tree in trees():
            names = [node.name for node in tree.body if isinstance(node, (ast.FunctionDef, ast.ClassDef))]
            names += [node.targets[0].id for node in tree.body if isinstance(node, ast.Assign)]
            names += sorted(imported(tree))
            self.assertEqual(len(names), len(set(names)), path)

    def test_imports(self):
        links = {}
        defined = {path.stem: {name for node in tree.body for name in names_of(node)} for path, tree in trees()}
        for path, tree in trees():
            links[path.stem] = []
            for node in nodes(tree, ast.ImportFrom):
                self.assertIn(node, tree.body)
                if node.module in LIBRARY:
                    self.check_library(path, tree, node)
                    continue
                package, _, module = node.module.partition(".")
                self.assertEqual([package, node.level], ["typingroom", 0], path)
                links[path.stem].append(module)
                for alias in node.names:
                    self.assertIsNone(alias.asname)
                    self.assertIn(alias.name, defined[module], (path, alias.name))
                    used = [name.id for name in nodes(tree, ast.Name)]
                    self.assertIn(alias.name, used, (path, alias.name))
        self.assertEqual(links["__init__"], [])
        while links:
            free = [module for module in links if not any(other in links for other in links[module])]
            self.assertNotEqual(free, [], "files import each other")
            links = {module: links[module] for module in links if module not in free}

    def check_library(self, path, tree, node):
        """What the library has is called by its bare name alone."""
        called = [id(call.func) for call in nodes(tree, ast.Call)]
        for alias in node.names:
            self.assertIsNone(alias.asname)
            self.assertIn(alias.name, LIBRARY[node.module], path)
            used = [name for name in nodes(tree, ast.Name) if name.id == alias.name]
            self.assertNotEqual(used, [], (path, alias.name))
            self.assertEqual([name.lineno for name in used if id(name) not in called], [], path)

    def test_decorators_annotations_and_star_parameters(self):
        for path, tree in trees():
            methods = [id(node) for kind in nodes(tree, ast.ClassDef) for node in kind.body]
            for node in nodes(tree, ast.FunctionDef, ast.ClassDef):
                names = [decorator.id for decorator in node.decorator_list]
                self.assertIn(names, [[], ["staticmethod"], ["classmethod"]], (path, node.lineno))
                self.assertTrue(names == [] or id(node) in methods, (path, node.lineno))
            for node in nodes(tree, ast.arg):
                self.assertIsNone(node.annotation, (path, node.lineno))
            for node in nodes(tree, ast.FunctionDef, ast.Lambda):
                told = node.args
                self.assertFalse(told.kwarg or told.posonlyargs, path)
                self.assertTrue(id(node) in methods or not (told.vararg or told.kwonlyargs), path)
                for value in told.defaults + [value for value in told.kw_defaults if value is not None]:
                    self.assertTrue(isinstance(value, (ast.Constant, ast.Tuple)) and not nodes(value, ast.Name), path)

    def test_what_a_finally_holds(self):
        for path, tree in trees():
            for node in nodes(tree, ast.Try):
                for row in node.finalbody:
                    self.assertIsInstance(row, ast.Assign, (path, row.lineno))
                    for part in row.targets + [row.value]:
                        self.assertIsInstance(part, (ast.Name, ast.Attribute), (path, row.lineno))
                errors = [handler.type.id for handler in node.handlers]
                self.assertTrue(set(errors) <= set(INTERFACE["errors"]), (path, node.lineno))
                self.assertFalse(node.finalbody and errors, (path, node.lineno))

    def test_generators_and_nested_functions(self):
        for path, tree in trees():
            yields = nodes(tree, ast.Yield)
            rows = [id(node.value) for node in nodes(tree, ast.Expr)]
            self.assertEqual([node.lineno for node in yields if id(node) not in rows], [], path)
            inner = [other for node in nodes(tree, ast.FunctionDef) for other in nodes(node, ast.FunctionDef)
                     if other is not node]
            for node in nodes(tree, ast.Nonlocal):
                self.assertTrue(any([other.body[0] is node for other in inner]), (path, node.lineno))
            for node in nodes(tree, ast.FunctionDef):
                if node.name in SPECIAL or node.decorator_list:
                    self.assertEqual(nodes(node, ast.Yield), [], (path, node.lineno))

    def test_operators_change_nothing(self):
        for path, tree in trees():
            for node in nodes(tree, ast.FunctionDef):
                if node.name in SPECIAL and node.name not in ("__init__", "__call__"):
                    self.assertEqual(nodes(node, ast.Assign, ast.AugAssign), [], (path, node.lineno))
                if node.name == "__iter__":
                    self.assertRegex(ast.unparse(node.body), r"^return iter\(self\.\w+\)$")
                if node.name == "__len__":
                    self.assertRegex(ast.unparse(node.body), r"^return len\(self\.\w+\)$")


def names_of(node):
    if isinstance(node, (ast.FunctionDef, ast.ClassDef)):
        return [node.name]
    return [node.targets[0].id] if isinstance(node, ast.Assign) else []


class Names(TestCase):
    def test_builtins(self):
        for path, tree in trees():
            for node in nodes(tree, ast.Name):
                if is_builtin(node.id):
                    self.assertIn(node.id, BUILTINS, (path, node.lineno))
                    self.assertIsInstance(node.ctx, ast.Load, (path, node.lineno))
            for node in nodes(tree, ast.arg):
                self.assertFalse(is_builtin(node.arg), (path, node.arg))
            for node in nodes(tree, ast.FunctionDef, ast.ClassDef):
                self.assertTrue(node.name in SPECIAL or not is_builtin(node.name), (path, node.name))

    def test_no_name_hides_a_class_or_an_import(self):
        classes = {node.name for _, tree in trees() for node in nodes(tree, ast.ClassDef)}
        for path, tree in trees():
            hidden = imported(tree) | classes
            for node in nodes(tree, ast.arg):
                self.assertNotIn(node.arg, hidden, path)
            for node in nodes(tree, ast.Name):
                if isinstance(node.ctx, ast.Store):
                    self.assertNotIn(node.id, hidden, (path, node.lineno))

    def test_plain_names(self):
        for path, tree in trees():
            names = [node.id for node in nodes(tree, ast.Name)] + [node.arg for node in nodes(tree, ast.arg)]
            names += [node.attr for node in nodes(tree, ast.Attribute)]
            names += [node.name for node in nodes(tree, ast.FunctionDef)]
            for name in names:
                if name not in SPECIAL:
                    self.assertRegex(name, r"^(_|_?[A-Za-z][A-Za-z0-9_]*)$", path)
            read = [node for node in nodes(tree, ast.Name) if node.id == "_" and isinstance(node.ctx, ast.Load)]
            self.assertEqual(read, [], path)

    def test_methods_are_known(self):
        own = {node.name for _, tree in trees() for node in nodes(tree, ast.FunctionDef)}
        for path, tree in trees():
            for node in nodes(tree, ast.Call):
                if isinstance(node.func, ast.Attribute):
                    self.assertIn(node.func.attr, own | set(METHODS), (path, node.lineno))

    def test_own_methods_and_attributes_have_no_names_of_builtin_ones(self):
        taken = {name for kind in (str, int, list, dict, set, bytes, tuple) for name in dir(kind)} - set(SPECIAL)
        for path, tree in trees():
            for node in nodes(tree, ast.ClassDef):
                for method in nodes(node, ast.FunctionDef):
                    self.assertNotIn(method.name, taken, (path, method.name))
            for node in nodes(tree, ast.Attribute):
                if isinstance(node.ctx, ast.Store):
                    self.assertNotIn(node.attr, taken, (path, node.attr))

    def test_no_name_is_a_method_and_an_attribute(self):
        classes = [node for _, tree in trees() for node in nodes(tree, ast.ClassDef)]
        stored = {node.name: {part.attr for part in nodes(node, ast.Attribute) if isinstance(part.ctx, ast.Store)
                              and getattr(part.value, "id", "") == "self"} for node in classes}
        for node in classes:
            for method in nodes(node, ast.FunctionDef):
                self.assertNotIn(method.name, stored[node.name], node.name)
                if any(method.name in names for names in stored.values()):
                    self.assertEqual([method.decorator_list, nodes(method, ast.Yield)], [[], []], method.name)

    def test_no_method_is_read_off_a_class(self):
        classes = {node.name for _, tree in trees() for node in nodes(tree, ast.ClassDef)}
        for path, tree in trees():
            for node in nodes(tree, ast.Attribute):
                self.assertNotIn(getattr(node.value, "id", ""), classes, (path, node.lineno))


class Expressions(TestCase):
    def test_is_stands_beside_none_alone(self):
        for path, tree in trees():
            for node in nodes(tree, ast.Compare):
                for sign, side in zip(node.ops, node.comparators):
                    if isinstance(sign, (ast.Is, ast.IsNot)):
                        self.assertTrue(isinstance(side, ast.Constant) and side.value in (None, True, False), path)

    def test_sets_stand_in_sorted_or_len_alone(self):
        for path, tree in trees():
            inner = [id(argument) for node in nodes(tree, ast.Call) if isinstance(node.func, ast.Name)
                     and node.func.id in ("sorted", "len") for argument in node.args]
            for node in nodes(tree, ast.Call):
                if isinstance(node.func, ast.Name) and node.func.id == "set":
                    self.assertIn(id(node), inner, (path, node.lineno))

    def test_strings_and_numbers(self):
        for path, tree in trees():
            for node in nodes(tree, ast.Constant):
                self.assertIn(node.value.__class__, (str, int, bool, None.__class__), (path, node.lineno))
                if isinstance(node.value, str):
                    self.assertNotIn("%", node.value, (path, node.lineno))

    def test_builtins_are_called_alone(self):
        for path, tree in trees():
            called = [id(node.func) for node in nodes(tree, ast.Call)]
            kinds = [id(part) for node in nodes(tree, ast.Call) if isinstance(node.func, ast.Name)
                     and node.func.id == "isinstance" for part in ast.walk(node.args[1])]
            bases = [id(base) for node in nodes(tree, ast.ClassDef) for base in node.bases]
            bases += [id(name) for node in nodes(tree, ast.FunctionDef) for name in node.decorator_list]
            returned = [id(node.value) for node in nodes(tree, ast.Return)]
            for node in nodes(tree, ast.Name):
                if is_builtin(node.id):
                    self.assertIn(id(node), called + kinds + bases + returned, (path, node.lineno))

    def test_views_are_iterated_at_once(self):
        for path, tree in trees():
            taken = [id(node.iter) for node in nodes(tree, ast.For, ast.comprehension)]
            taken += [id(part) for node in nodes(tree, ast.Call) if isinstance(node.func, ast.Name)
                      and node.func.id in ("list", "tuple", "dict", "sorted", "enumerate", "zip") for part in node.args]
            for node in nodes(tree, ast.Call):
                name = node.func.attr if isinstance(node.func, ast.Attribute) else getattr(node.func, "id", "")
                if name in ("zip", "enumerate", "reversed", "range", "items", "keys", "values"):
                    self.assertIn(id(node), taken, (path, node.lineno))


class Interface(TestCase):
    def test_all_is_defined_where_it_is_listed(self):
        for name, things in INTERFACE.items():
            module = import_module("typingroom." + name)
            for thing in things:
                self.assertEqual(getattr(module, thing).__module__, "typingroom." + name)

    def test_methods_stand_in_their_classes(self):
        for (name, thing), methods in OWN_METHODS.items():
            kind = getattr(import_module("typingroom." + name), thing)
            for method in methods:
                self.assertIn(method, vars(kind))

    def test_arguments(self):
        for name, thing, told in [
                ("kinds", "is_type", "(thing)"), ("kinds", "type_text", "(told)"),
                ("rooms", "Room", "(bases, order, names, functions, goal)"), ("roomtexts", "read_room", "(text)"),
                ("roomtexts", "write_room", "(room)"), ("words", "split_text", "(text)"),
                ("words", "join_words", "(words)"), ("checking", "is_right", "(room, words)"),
                ("offering", "broken", "(room, words)"), ("offering", "offers", "(room, words)"),
                ("offering", "completions", "(room, words, letters)"), ("offering", "Offers", "(words, but)"),
                ("offering", "Finishing", "(words, table)"), ("offering", "finish", "(room, words)"),
                ("holes", "hole", "(room, words)"), ("holes", "is_filling", "(room, words, kind)"),
                ("helping", "meant", "(room, words)"), ("helping", "own_types", "(room, words, name)"),
                ("counting", "endings", "(room, words, most)"), ("counting", "ending", "(room, words, many, number)"),
                ("counting", "number_of", "(room, words, more)"), ("edits", "Edit", "(first, last, words)"),
                ("edits", "carried", "(one, other)"), ("edits", "shrunk", "(words, more)"),
                ("edits", "answers", "(room, words)"), ("edits", "stale", "(room, words, edit)"),
                ("editors", "Editor", "(room, words=(), *, strict=False)"), ("editors", "watcher", "(editor)"),
                ("talks", "Talk", "(room, words=())"), ("manyholes", "holes", "(room, words)"),
                ("manyholes", "are_fillings", "(room, words, kinds)"), ("rivals", "Same", "(chains, literals)"),
                ("rivals", "Unlike", "(words)"), ("rivals", "judge_rooms", "(one, other)"),
                ("rivals", "needless", "(room)"), ("rivals", "lean_room", "(room)"),
                ("mending", "Mend", "(words, number, chains, exprs)"), ("mending", "mend", "(room, words, need)"),
                ("plans", "Plan", "(rows, number, table)"), ("plans", "plan", "(deeds, most)"),
                ("meanings", "meanings", "(room, words)"), ("meanings", "Clear", "(chains, literals)"),
                ("meanings", "Double", "(words, rows)"), ("meanings", "judge_meanings", "(room)"),
                ("keeping", "nodes", "(words)"), ("keeping", "kept", "(words, edit)"), ("keeping", "anew", "(words, edit)"),
                ("moving", "unused", "(words)"), ("moving", "told_out", "(words, first, last, name)"),
                ("moving", "put_in", "(words, name)"), ("patches", "Patch", "(changes, least)"),
                ("patches", "patch", "(edits)"), ("patches", "behind", "(one, other)"),
                ("patches", "together", "(one, other)"), ("patches", "all_together", "(patches)"),
                ("patches", "Together", "(whole, one, other)"), ("patches", "Clash", "(one, other)"),
                ("crossing", "Crossing", "(room, words, events)")]:
            found = inspect.signature(getattr(import_module("typingroom." + name), thing))
            self.assertEqual(str(found), told, thing)

    def test_arguments_of_methods(self):
        for name, thing, method, told in [
                ("edits", "Edit", "growth", "(self)"), ("edits", "Edit", "undone", "(self, words)"),
                ("edits", "Edit", "__call__", "(self, words)"), ("editors", "Editor", "careful", "(room, *words)"),
                ("editors", "Editor", "gap", "(words, more)"), ("editors", "Editor", "__call__", "(self, word)"),
                ("editors", "Editor", "be_strict", "(self, strict=True)"), ("editors", "Editor", "keep", "(self)"),
                ("editors", "Editor", "type_in", "(self, *words)"), ("editors", "Editor", "edit", "(self, *edits)"),
                ("editors", "Editor", "trial", "(self, work)"), ("editors", "Editor", "each_offer", "(self)"),
                ("editors", "Editor", "text", "(self, *, numbers=False)"), ("talks", "Talk", "edit", "(self, *edits)"),
                ("talks", "Talk", "ask", "(self, place=None)"), ("talks", "Talk", "answer", "(self, number)"),
                ("talks", "Talk", "place", "(self, number)"), ("talks", "Talk", "is_right", "(self, number)"),
                ("talks", "Talk", "each_right", "(self)"), ("offering", "Finishing", "shows", "(self, room, words)"),
                ("rivals", "Same", "shows", "(self, one, other)"), ("rivals", "Unlike", "shows", "(self, one, other)"),
                ("mending", "Mend", "shows", "(self, room, words, need)"), ("plans", "Plan", "shows", "(self, deeds, most)"),
                ("meanings", "Clear", "shows", "(self, room)"), ("meanings", "Double", "shows", "(self, room)"),
                ("patches", "Patch", "__call__", "(self, words)"), ("patches", "Patch", "edits", "(self)"),
                ("patches", "Patch", "growth", "(self)"), ("crossing", "Crossing", "answer", "(self, number)"),
                ("crossing", "Crossing", "rights", "(self, number)"), ("crossing", "Crossing", "soonest", "(self, number)"),
                ("crossing", "Crossing", "always", "(self)"), ("crossing", "Crossing", "spare", "(self)"),
                ("crossing", "Crossing", "each_time", "(self)")]:
            found = inspect.signature(getattr(getattr(import_module("typingroom." + name), thing), method))
            self.assertEqual(str(found), told, (thing, method))
