"""The package's files keep to the subset of Python in which the program is written.

These checks cover the rules that can be seen simply; the letters and numbers in the names of
the tests are those of the rules. They are stricter than the rules where the program needs less.
"""

import ast
import builtins
import os
import re
import unittest

ROOT = os.path.dirname(os.path.dirname(os.path.abspath(__file__)))
PACKAGE = os.path.join(ROOT, "partshare")

INTERFACE = {
    "errors.py": [
        "ShareError", "NoPrime", "BadRest", "BadRow", "BadTable", "BadShares", "BadNeed", "TooMany",
        "TooFew", "Unlike", "NoWay", "NoShare", "Taken", "NoText",
    ],
    "rests.py": ["is_prime", "turned"],
    "rows.py": ["worth", "added", "times", "parted"],
    "tables.py": ["solved"],
    "parting.py": ["shares_of", "through", "number_of", "ways", "nth"],
    "anew.py": ["weights", "gathered", "refreshed"],
    "mending.py": ["mended"],
    "vault.py": ["Vault"],
    "notes.py": ["shown", "read"],
}

PARAMETERS = {
    "is_prime": ["thing"],
    "turned": ["p", "rest"],
    "worth": ["p", "row", "at"],
    "added": ["p", "one", "other"],
    "times": ["p", "one", "other"],
    "parted": ["p", "row", "other"],
    "solved": ["p", "lines", "wanted"],
    "shares_of": ["p", "row", "places"],
    "through": ["p", "shares"],
    "number_of": ["p", "need", "shares"],
    "ways": ["p", "need", "shares", "number"],
    "nth": ["p", "need", "shares", "number", "which"],
    "weights": ["p", "places"],
    "gathered": ["p", "places", "parts"],
    "refreshed": ["p", "shares", "row"],
    "mended": ["p", "need", "shares"],
    "shown": ["p", "need", "shares"],
    "read": ["text"],
}

LISTED_METHODS = {
    "__init__": ["self", "p", "need"],
    "put": ["self", "place", "worth"],
    "drop": ["self", "place"],
    "shares": ["self"],
    "number": ["self"],
    "wrong": ["self"],
    "refresh": ["self", "row"],
    "change": ["self", "places", "rows"],
}

STATEMENTS = (
    ast.Assign, ast.AugAssign, ast.If, ast.While, ast.For, ast.Return, ast.Break, ast.Continue, ast.Pass,
    ast.Raise, ast.Try, ast.Expr, ast.FunctionDef, ast.ClassDef, ast.ImportFrom, ast.Del, ast.Assert,
)

BUILTINS = {
    "len", "range", "enumerate", "zip", "min", "max", "sum", "abs", "sorted", "reversed", "int", "str", "bool",
    "list", "tuple", "dict", "set", "isinstance", "ord", "repr", "any", "all", "divmod", "type", "bytes",
    "ValueError", "KeyError", "IndexError", "LookupError", "ZeroDivisionError",
}

METHODS = set(
    "append clear copy count endswith extend find get index insert isalnum isalpha isdigit islower isspace isupper "
    "items join keys ljust lower lstrip partition pop remove replace reverse rfind rjust rpartition rsplit rstrip "
    "setdefault split splitlines startswith strip update upper values zfill bit_length isascii isdecimal sort add "
    "discard".split()
)

BARRED_NAMES = set(
    "register mro elements open input law version_info with_traceback add_note attrgetter breakpoint builtins compile "
    "copyright credits delattr dir eval exec exit gc getattr globals hasattr help id importlib license locals "
    "methodcaller os quit setattr super vars sys iter next map filter product".split()
)

BARRED_WORDS = set(
    "typing typing_extensions enum Enum IntEnum StrEnum Flag IntFlag Generic Protocol ABC ABCMeta namedtuple "
    "NamedTuple TypedDict TYPE_CHECKING abstractmethod dataclass overload contextmanager".split()
)


def package_files():
    """The names of the package's files."""
    return sorted(name for name in os.listdir(PACKAGE) if name != "__pycache__")


def text_of(name):
    with open(os.path.join(PACKAGE, name), "rb") as source:
        return source.read().decode("utf-8")


def tree_of(name):
    return ast.parse(text_of(name), name)


def functions_of(tree):
    return [node for node in ast.walk(tree) if isinstance(node, ast.FunctionDef)]


def defined_in(tree):
    """The functions and classes at module level, by name."""
    return {node.name: node for node in tree.body if isinstance(node, (ast.FunctionDef, ast.ClassDef))}


def values_of(tree):
    """The names of the plain values at module level."""
    return {target.id for node in tree.body if isinstance(node, ast.Assign) for target in node.targets}


def names_bound(tree):
    """Every name that the file binds: functions, classes, imports, parameters, variables."""
    found = []
    for node in ast.walk(tree):
        if isinstance(node, (ast.FunctionDef, ast.ClassDef)):
            found.append(node.name)
        elif isinstance(node, ast.arg):
            found.append(node.arg)
        elif isinstance(node, ast.alias):
            found.append(node.asname or node.name)
        elif isinstance(node, ast.Name) and not isinstance(node.ctx, ast.Load):
            found.append(node.id)
        elif isinstance(node, ast.ExceptHandler) and node.name:
            found.append(node.name)
    return found


def docstrings_of(tree):
    """The nodes that are docstrings."""
    found = []
    for node in ast.walk(tree):
        if isinstance(node, (ast.Module, ast.ClassDef, ast.FunctionDef)) and node.body:
            first = node.body[0]
            if isinstance(first, ast.Expr) and isinstance(first.value, ast.Constant):
                found.append(first.value)
    return found


def own_methods():
    """The methods that the package's classes define, by name."""
    found = set()
    for name in package_files():
        for node in ast.walk(tree_of(name)):
            if isinstance(node, ast.ClassDef):
                found.update(part.name for part in node.body if isinstance(part, ast.FunctionDef))
    return found


def is_plain(node):
    """Whether an expression at module level is a plain value."""
    if isinstance(node, ast.UnaryOp):
        return isinstance(node.op, ast.USub) and is_plain(node.operand)
    if isinstance(node, (ast.Tuple, ast.List)):
        return all(isinstance(part, ast.Constant) for part in node.elts)
    if isinstance(node, ast.Dict):
        return all(isinstance(part, ast.Constant) for part in node.keys + node.values)
    return isinstance(node, ast.Constant)


class Files(unittest.TestCase):
    def test_l1_the_package_holds_only_python_files_with_plain_names(self):
        for name in package_files():
            self.assertRegex(name, r"^[a-z_][a-z0-9_]*\.py$")
            self.assertNotRegex(name, r"^(test|law_|conftest|site)")
        self.assertIn("__init__.py", package_files())

    def test_l10_l14_lines_and_characters(self):
        for name in package_files():
            text = text_of(name)
            self.assertRegex(text, r"\A[ -~\n]*\Z", name)
            self.assertTrue(text.endswith("\n") and not text.endswith("\n\n"), name)
            lines = text.split("\n")
            self.assertLess(len(lines), 400, name)
            for line in lines:
                self.assertLessEqual(len(line), 120, name + ": " + line)
                self.assertEqual(line, line.rstrip(), name)

    def test_l10_functions_are_short(self):
        for name in package_files():
            for node in functions_of(tree_of(name)):
                self.assertLessEqual(node.end_lineno - node.lineno + 1, 40, node.name)

    def test_each_file_function_and_class_says_what_it_is(self):
        for name in package_files():
            tree = tree_of(name)
            for node in [tree] + list(defined_in(tree).values()) + functions_of(tree):
                self.assertTrue(ast.get_docstring(node), name + " " + getattr(node, "name", ""))


class Interface(unittest.TestCase):
    def test_each_name_is_defined_in_its_file(self):
        for name, listed in INTERFACE.items():
            defined = defined_in(tree_of(name))
            for each in listed:
                self.assertIn(each, defined, name)

    def test_parameters_are_as_written(self):
        for name in INTERFACE:
            for each, node in defined_in(tree_of(name)).items():
                if each in PARAMETERS:
                    args = node.args
                    self.assertEqual([arg.arg for arg in args.args], PARAMETERS[each], each)
                    self.assertEqual((args.defaults, args.vararg, args.kwarg, args.posonlyargs), ([], None, None, []))


    def test_the_vault_defines_its_methods_itself(self):
        node = defined_in(tree_of("vault.py"))["Vault"]
        self.assertEqual(node.bases, [])
        methods = {part.name: part.args for part in node.body if isinstance(part, ast.FunctionDef)}
        self.assertEqual({name: [arg.arg for arg in args.args] for name, args in methods.items()}, LISTED_METHODS)
        for args in methods.values():
            self.assertEqual((args.defaults, args.vararg, args.kwarg, args.posonlyargs), ([], None, None, []))

    def test_l18_l26_no_attribute_has_the_name_of_a_method(self):
        taken = {name for kind in (str, bytes, int, list, tuple, dict, set) for name in dir(kind)} | own_methods()
        for name in package_files():
            for node in ast.walk(tree_of(name)):
                if isinstance(node, ast.Attribute) and isinstance(node.ctx, ast.Store):
                    self.assertEqual(getattr(node.value, "id", ""), "self", name)
                    self.assertNotIn(node.attr, taken, name)
        self.assertFalse(own_methods() & {name for kind in (str, bytes, int, list, dict, set) for name in dir(kind)}
                         - {"__init__"})


class Shape(unittest.TestCase):
    def test_l2_l16_imports(self):
        defined = {name[:-3]: set(defined_in(tree_of(name))) | values_of(tree_of(name)) for name in package_files()}
        for name in package_files():
            body = [node for node in tree_of(name).body if not isinstance(node, ast.Expr)]
            inside = [node for node in ast.walk(tree_of(name)) if isinstance(node, (ast.Import, ast.ImportFrom))]
            top = [node for node in body if isinstance(node, (ast.Import, ast.ImportFrom))]
            self.assertEqual(len(inside), len(top), name)
            self.assertEqual(body[:len(top)], top, name)
            for node in top:
                self.assertIsInstance(node, ast.ImportFrom, name)
                self.assertEqual(node.level, 0, name)
                self.assertRegex(node.module, r"^partshare\.[a-z_]+$")
                for alias in node.names:
                    self.assertIsNone(alias.asname)
                    self.assertIn(alias.name, defined[node.module.split(".")[1]], name)

    def test_l16_no_two_files_import_from_each_other(self):
        ahead = {}
        for name in package_files():
            imports = [node.module for node in tree_of(name).body if isinstance(node, ast.ImportFrom)]
            ahead[name[:-3]] = {module.split(".")[1] for module in imports}
        while ahead:
            free = [name for name in ahead if not ahead[name] & set(ahead)]
            self.assertTrue(free, ahead)
            for name in free:
                del ahead[name]

    def test_imports_are_used(self):
        for name in package_files():
            tree = tree_of(name)
            used = {node.id for node in ast.walk(tree) if isinstance(node, ast.Name)}
            for node in tree.body:
                if isinstance(node, ast.ImportFrom):
                    for alias in node.names:
                        self.assertIn(alias.name, used, name)

    def test_l3_module_level(self):
        for name in package_files():
            bound = []
            for at, node in enumerate(tree_of(name).body):
                if isinstance(node, ast.Expr):
                    self.assertTrue(at == 0 and isinstance(node.value, ast.Constant), name)
                elif isinstance(node, ast.Assign):
                    self.assertTrue(is_plain(node.value), name)
                    self.assertEqual([type(target) for target in node.targets], [ast.Name], name)
                    bound.append(node.targets[0].id)
                elif isinstance(node, ast.ImportFrom):
                    bound += [alias.name for alias in node.names]
                else:
                    self.assertIsInstance(node, (ast.FunctionDef, ast.ClassDef), name)
                    bound.append(node.name)
            self.assertEqual(len(bound), len(set(bound)), name)

    def test_l4_l21_no_decorators_and_no_annotations(self):
        for name in package_files():
            for node in ast.walk(tree_of(name)):
                if isinstance(node, (ast.FunctionDef, ast.ClassDef)):
                    self.assertEqual(node.decorator_list, [], node.name)
                if isinstance(node, ast.FunctionDef):
                    self.assertIsNone(node.returns, node.name)
                if isinstance(node, ast.arg):
                    self.assertIsNone(node.annotation, node.arg)

    def test_l6_statements(self):
        for name in package_files():
            for node in ast.walk(tree_of(name)):
                if isinstance(node, ast.stmt):
                    self.assertIsInstance(node, STATEMENTS, name)

    def test_l18_l19_error_classes_and_what_is_raised(self):
        errors = set(INTERFACE["errors.py"])
        for node in tree_of("errors.py").body[1:]:
            self.assertIsInstance(node, ast.ClassDef)
            self.assertEqual(len(node.body), 1, node.name)
        for name in package_files():
            for node in ast.walk(tree_of(name)):
                if isinstance(node, ast.Raise) and node.exc is not None:
                    self.assertIsInstance(node.exc, ast.Call, name)
                    self.assertIn(node.exc.func.id, errors, name)
                    self.assertEqual(node.exc.keywords, [], name)


class Words(unittest.TestCase):
    def test_l8_l15_l17_names(self):
        for name in package_files():
            tree = tree_of(name)
            for bound in names_bound(tree):
                self.assertRegex(bound, r"^(_|_?[A-Za-z][A-Za-z0-9_]*|__init__|__eq__|__len__|__str__|__repr__)$")
                self.assertTrue(bound == "__init__" or not hasattr(builtins, bound), name + ": " + bound)
                self.assertNotIn(bound, BARRED_NAMES, name)

    def test_l15_nothing_hides_an_import_or_a_class(self):
        for name in package_files():
            tree = tree_of(name)
            fixed = {alias.name for node in tree.body if isinstance(node, ast.ImportFrom) for alias in node.names}
            fixed.update(node.name for node in tree.body if isinstance(node, ast.ClassDef))
            bound = names_bound(tree)
            for each in fixed:
                self.assertEqual(bound.count(each), 1, name + ": " + each)

    def test_l8_builtins(self):
        for name in package_files():
            tree = tree_of(name)
            bound = set(names_bound(tree))
            for node in ast.walk(tree):
                if isinstance(node, ast.Name) and node.id not in bound:
                    self.assertIn(node.id, BUILTINS, name)

    def test_l25_methods(self):
        allowed = METHODS | own_methods()
        for name in package_files():
            for node in ast.walk(tree_of(name)):
                if isinstance(node, ast.Call) and isinstance(node.func, ast.Attribute):
                    self.assertIn(node.func.attr, allowed, name)

    def test_l17_words(self):
        for name in package_files():
            text = text_of(name)
            for word in re.findall(r"[A-Za-z_]+", text):
                self.assertNotIn(word, BARRED_WORDS, name)
                self.assertNotRegex(word, r"_wall|_WallAttr", name)
            text = re.sub(r"(?s)\"\"\".*?\"\"\"|#[^\n]*", "", text)
            text = re.sub(r"type\([a-z_.]+\) (is|is not|==|!=) [a-z]+", "", text)
            self.assertNotRegex(text, r"\btype\b", name)


class Expressions(unittest.TestCase):
    def test_l7_no_floats_and_no_slash(self):
        for name in package_files():
            for node in ast.walk(tree_of(name)):
                self.assertNotIsInstance(node, (ast.Div, ast.MatMult))
                if isinstance(node, ast.Constant):
                    self.assertNotIsInstance(node.value, (float, complex), name)

    def test_l27_exponents_and_strings(self):
        for name in package_files():
            tree = tree_of(name)
            docstrings = docstrings_of(tree)
            for node in ast.walk(tree):
                if isinstance(node, ast.BinOp) and isinstance(node.op, ast.Pow):
                    self.assertIsInstance(node.right, ast.Constant, name)
                if isinstance(node, ast.Constant) and isinstance(node.value, str) and node not in docstrings:
                    self.assertNotIn("%", node.value, name)
                    self.assertNotIn("\\", node.value.replace("\n", ""), name)

    def test_l20_is(self):
        kinds = ("int", "str", "bool", "list", "tuple", "dict")
        for name in package_files():
            for node in ast.walk(tree_of(name)):
                if isinstance(node, ast.Compare):
                    for sign, right in zip(node.ops, node.comparators):
                        if isinstance(sign, (ast.Is, ast.IsNot)) and not isinstance(right, ast.Constant):
                            self.assertIn(getattr(right, "id", ""), kinds, name)

    def test_l7_l22_calls_have_no_stars(self):
        for name in package_files():
            for node in ast.walk(tree_of(name)):
                if isinstance(node, ast.Call):
                    self.assertFalse([arg for arg in node.args if isinstance(arg, ast.Starred)], name)
                    self.assertFalse([each for each in node.keywords if each.arg is None], name)

    def test_l23_ranges_and_their_kin_are_iterated_at_once(self):
        takers = ("list", "tuple", "dict", "sorted", "sum", "any", "all", "enumerate", "zip", "min", "max")
        for name in package_files():
            tree = tree_of(name)
            allowed = []
            for node in ast.walk(tree):
                if isinstance(node, (ast.For, ast.comprehension)):
                    allowed.append(node.iter)
                if isinstance(node, ast.Call) and getattr(node.func, "id", "") in takers and node.args:
                    allowed += node.args
                if isinstance(node, ast.Call) and getattr(node.func, "id", "") == "reversed":
                    allowed += [arg for arg in node.args if getattr(getattr(arg, "func", None), "id", "") == "range"]
                if isinstance(node, ast.Compare):
                    parts = node.comparators
                    allowed += [part for part in parts if getattr(getattr(part, "func", None), "id", "") == "range"]
            for node in ast.walk(tree):
                if isinstance(node, ast.Call):
                    if getattr(node.func, "id", "") in ("range", "zip", "enumerate", "reversed"):
                        self.assertIn(node, allowed, name + " line " + str(node.lineno))
                    if getattr(node.func, "attr", "") in ("items", "keys", "values"):
                        self.assertIn(node, allowed, name + " line " + str(node.lineno))

    def test_l24_no_sets_are_stored_in_module_or_returned(self):
        for name in package_files():
            for node in ast.walk(tree_of(name)):
                if isinstance(node, ast.Return):
                    self.assertNotIsInstance(node.value, (ast.Set, ast.SetComp), name)


if __name__ == "__main__":
    unittest.main()
