"""Holds the package's files to the rules of the language that can be read off their trees."""

import ast
import re
import unittest
from pathlib import Path

PACKAGE = Path(__file__).resolve().parent.parent / "stairrooms"

NODES = """
Module FunctionDef ClassDef Return Assign AugAssign For While If Raise Try ExceptHandler ImportFrom alias
Expr Pass Break Continue arguments arg keyword BoolOp BinOp UnaryOp Lambda IfExp Dict Set ListComp
comprehension Compare Call JoinedStr FormattedValue Constant Attribute Subscript Name List Tuple Slice
Load Store And Or Add Sub Mult Mod Pow FloorDiv LShift RShift BitOr BitXor BitAnd Invert Not UAdd USub
Eq NotEq Lt LtE Gt GtE Is IsNot In NotIn
""".split()

PYTHONS_OWN = """
len range enumerate zip min max sum abs sorted reversed int str bool list tuple dict set frozenset isinstance
ord repr any all divmod Exception ValueError TypeError KeyError IndexError LookupError ZeroDivisionError
ArithmeticError OverflowError RuntimeError NotImplementedError AttributeError StopIteration
""".split()

METHODS = """
append clear copy count endswith extend find get index insert isalnum isalpha isdigit islower isspace isupper
items join keys ljust lower lstrip partition pop remove replace reverse rfind rjust rpartition rsplit rstrip
setdefault split splitlines startswith strip update upper values zfill bit_length
""".split()

WORDS_NOWHERE = """
type typing typing_extensions enum Enum IntEnum StrEnum Flag IntFlag Generic Protocol ABC ABCMeta namedtuple
NamedTuple TypedDict TYPE_CHECKING abstractmethod
""".split()

NAMES_NOWHERE = """
register mro elements open input version_info with_traceback add_note attrgetter breakpoint builtins compile
copyright credits delattr dir eval exec exit gc getattr globals hasattr help id importlib license locals
methodcaller os quit setattr super vars sys chr print
""".split()

OWN_DUNDERS = ["__init__", "__eq__", "__repr__", "__str__", "__len__"]


def files():
    return sorted(PACKAGE.glob("*.py"))


def tree_of(file):
    return ast.parse(file.read_text(encoding="utf-8"))


def nodes_of(file, *kinds):
    return [node for node in ast.walk(tree_of(file)) if isinstance(node, kinds)]


# Each asking reads the file anew, so a node is known again by where it stands.
def spot_of(node):
    return (node.lineno, node.col_offset)


def imports_of(file):
    return [(node.module, name.name) for node in nodes_of(file, ast.ImportFrom) for name in node.names]


def top_names(file):
    names = []
    for node in tree_of(file).body:
        if isinstance(node, (ast.FunctionDef, ast.ClassDef)):
            names.append(node.name)
        elif isinstance(node, ast.Assign):
            names.extend(target.id for target in node.targets)
    return names


def bound_names(file):
    names = [node.id for node in nodes_of(file, ast.Name) if isinstance(node.ctx, ast.Store)]
    names += [node.arg for node in nodes_of(file, ast.arg)]
    return names + [node.name for node in nodes_of(file, ast.FunctionDef, ast.ClassDef)]


class Language(unittest.TestCase):
    def each(self, wrongs):
        for file in files():
            with self.subTest(file.name):
                self.assertEqual(wrongs(file), [])

    def test_the_package_holds_plain_files_alone(self):
        held = [path.name for path in PACKAGE.iterdir() if path.name != "__pycache__"]
        self.assertIn("__init__.py", held)
        self.assertEqual([name for name in held if not re.fullmatch(r"[a-z0-9_]+\.py", name)], [])

    def test_signs_and_sizes(self):
        def wrongs(file):
            text = file.read_text(encoding="utf-8")
            lines = text.split("\n")
            found = [line for line in lines if len(line) > 120 or not re.fullmatch(r"[ -~]*", line)]
            found += [node.name for node in nodes_of(file, ast.FunctionDef) if node.end_lineno - node.lineno >= 40]
            return found + (["too long"] if len(lines) > 400 else [])
        self.each(wrongs)

    def test_words_that_stand_nowhere(self):
        def wrongs(file):
            text = file.read_text(encoding="utf-8")
            longer = re.findall(r"dataclass|overload|contextmanager", text)
            return longer + [word for word in re.findall(r"\w+", text) if word in WORDS_NOWHERE]
        self.each(wrongs)

    def test_forms(self):
        def wrongs(file):
            found = [type(node).__name__ for node in nodes_of(file, ast.AST)]
            found = [name for name in found if name not in NODES]
            for node in nodes_of(file, ast.FunctionDef, ast.Lambda):
                found += ["star"] * bool(node.args.vararg or node.args.kwarg or node.args.kwonlyargs)
            found += ["decorator" for node in nodes_of(file, ast.FunctionDef, ast.ClassDef) if node.decorator_list]
            found += ["targets" for node in nodes_of(file, ast.Assign) if len(node.targets) != 1]
            found += ["loop's else" for node in nodes_of(file, ast.For, ast.While) if node.orelse]
            found += ["finally" for node in nodes_of(file, ast.Try) if node.finalbody]
            found += ["walks" for node in nodes_of(file, ast.ListComp) if len(node.generators) != 1]
            found += ["ifs" for node in nodes_of(file, ast.comprehension) if len(node.ifs) > 1]
            found += ["value" for node in nodes_of(file, ast.Constant) if isinstance(node.value, (float, bytes, complex))]
            return found
        self.each(wrongs)

    def test_is_stands_beside_none_true_and_false_alone(self):
        def wrongs(file):
            compared = [node for node in nodes_of(file, ast.Compare) if isinstance(node.ops[0], (ast.Is, ast.IsNot))]
            beside = [ast.unparse(node.comparators[0]) for node in compared]
            return [text for text in beside if text not in ("None", "True", "False")]
        self.each(wrongs)

    def test_keywords(self):
        def wrongs(file):
            known = {
                "sorted": ["key", "reverse"], "min": ["key", "default"], "max": ["key", "default"], "sum": ["start"],
                "enumerate": ["start"], "zip": ["strict"],
            }
            found = []
            for call in nodes_of(file, ast.Call):
                named = call.func.id if isinstance(call.func, ast.Name) else ""
                found += [word.arg for word in call.keywords if word.arg not in known.get(named, [])]
            return found
        self.each(wrongs)

    def test_texts(self):
        def wrongs(file):
            texts = [node.value for node in nodes_of(file, ast.Constant) if isinstance(node.value, str)]
            held = nodes_of(file, ast.FormattedValue)
            found = [node.lineno for node in held if not isinstance(node.value, ast.Name) or node.format_spec]
            return found + [text for text in texts if "%" in text]
        self.each(wrongs)

    def test_sets_are_neither_kept_nor_walked(self):
        def wrongs(file):
            sets = [call for call in nodes_of(file, ast.Call) if ast.unparse(call.func) in ("set", "frozenset")]
            held = [call for call in nodes_of(file, ast.Call) if ast.unparse(call.func) in ("sorted", "len")]
            inner = [spot_of(argument) for call in held for argument in call.args]
            return [ast.unparse(call) for call in sets if spot_of(call) not in inner] + nodes_of(file, ast.Set)
        self.each(wrongs)

    def test_what_is_walked_on_the_spot(self):
        def wrongs(file):
            lazy = ("zip", "enumerate", "reversed", "range")
            walked = [node.iter for node in nodes_of(file, ast.For, ast.comprehension)]
            takers = ("list", "tuple", "dict", "sorted", "sum", "any", "all", "enumerate", "zip", "min", "max")
            calls = [call for call in nodes_of(file, ast.Call) if ast.unparse(call.func) in takers]
            walked += [call.args[0] for call in calls if call.args]
            spots = [spot_of(node) for node in walked]
            kept = [call for call in nodes_of(file, ast.Call) if ast.unparse(call.func) in lazy]
            return [ast.unparse(call) for call in kept if spot_of(call) not in spots]
        self.each(wrongs)

    def test_what_a_loop_walks_is_not_changed_in_it(self):
        changes = ("append", "extend", "insert", "pop", "remove", "clear", "reverse", "update", "setdefault")

        def changed(node):
            if isinstance(node, ast.Call) and isinstance(node.func, ast.Attribute) and node.func.attr in changes:
                return ast.unparse(node.func.value)
            if isinstance(node, ast.Subscript) and isinstance(node.ctx, ast.Store):
                return ast.unparse(node.value)
            return None

        def wrongs(file):
            found = []
            for loop in nodes_of(file, ast.For):
                names = [node.id for node in ast.walk(loop.iter) if isinstance(node, ast.Name)]
                found += [node for part in loop.body for node in map(changed, ast.walk(part)) if node in names]
            return found
        self.each(wrongs)

    def test_tops(self):
        def wrongs(file):
            body = tree_of(file).body
            allowed = (ast.ImportFrom, ast.FunctionDef, ast.ClassDef, ast.Assign)
            found = [] if ast.get_docstring(tree_of(file)) else ["no docstring"]
            found += [type(node).__name__ for node in body[1:] if not isinstance(node, allowed)]
            return found + [name for name in set(top_names(file)) if top_names(file).count(name) > 1]
        self.each(wrongs)

    def test_names(self):
        def wrongs(file):
            own = set(bound_names(file)) | {name for _, name in imports_of(file)}
            found = [name for name in own - set(OWN_DUNDERS) if not re.fullmatch(r"[A-Za-z][A-Za-z0-9_]*", name)]
            found += [name for name in own if name in PYTHONS_OWN or name in NAMES_NOWHERE]
            found += [node.id for node in nodes_of(file, ast.Name) if node.id not in own and node.id not in PYTHONS_OWN]
            attributes = [node.attr for node in nodes_of(file, ast.Attribute)]
            stored = [node.attr for node in nodes_of(file, ast.Attribute) if isinstance(node.ctx, ast.Store)]
            known = METHODS + stored + bound_names(file)
            return found + [name for name in attributes if name not in known]
        self.each(wrongs)

    def test_no_local_is_called_like_an_import_or_a_class(self):
        def wrongs(file):
            taken = {name for _, name in imports_of(file)} | {node.name for node in nodes_of(file, ast.ClassDef)}
            names = [node.id for node in nodes_of(file, ast.Name) if isinstance(node.ctx, ast.Store)]
            return [name for name in names + [node.arg for node in nodes_of(file, ast.arg)] if name in taken]
        self.each(wrongs)

    def test_imports_come_from_the_very_file_that_defines_the_name(self):
        def wrongs(file):
            found = []
            for module, name in imports_of(file):
                folder, _, rest = module.partition(".")
                source = PACKAGE / f"{rest}.py"
                if folder != "stairrooms" or not source.is_file() or name not in top_names(source):
                    found.append((module, name))
            return found
        self.each(wrongs)

    def test_no_two_files_draw_from_one_another(self):
        drawn = {file.stem: {module.partition(".")[2] for module, _ in imports_of(file)} for file in files()}
        while drawn:
            free = [name for name in drawn if not drawn[name] & set(drawn)]
            self.assertTrue(free, f"these draw from one another: {sorted(drawn)}")
            for name in free:
                drawn.pop(name)


if __name__ == "__main__":
    unittest.main()
