"""Checks the package's files against those rules of LANGUAGE.md that a machine can see.

Each finding is told with its rule, file and line. What isn't found here may still be
outside a rule: the files are to be read against LANGUAGE.md all the same.
"""

import ast
import pathlib
import re
import sys

BUILTINS = set(
    "len range enumerate zip min max sum abs sorted reversed int str bool list tuple dict set frozenset isinstance "
    "ord repr any all divmod Exception ValueError TypeError KeyError IndexError LookupError ZeroDivisionError "
    "ArithmeticError OverflowError RuntimeError NotImplementedError AttributeError StopIteration".split()
)
METHODS = set(
    "append clear copy count endswith extend find get index insert isalnum isalpha isdigit islower isspace isupper "
    "items join keys ljust lower lstrip partition pop remove replace reverse rfind rjust rpartition rsplit rstrip "
    "setdefault split splitlines startswith strip update upper values zfill bit_length".split()
)
BAD_WORDS = re.compile(
    r"\b(type|typing|typing_extensions|enum|Enum|IntEnum|StrEnum|Flag|IntFlag|Generic|Protocol|ABC|ABCMeta|namedtuple"
    r"|NamedTuple|TypedDict|TYPE_CHECKING|abstractmethod)\b|dataclass|overload|contextmanager"
)
BAD_NAMES = set(
    "register mro elements open input version_info with_traceback add_note attrgetter breakpoint builtins compile "
    "copyright credits delattr dir eval exec exit gc getattr globals hasattr help id importlib license locals "
    "methodcaller os quit setattr super type vars sys format format_map chr".split()
)
BAD_ATTRIBUTES = set(
    "register mro elements open input version_info with_traceback add_note format format_map sort args encode".split()
)
DUNDER_METHODS = ("__init__", "__eq__", "__repr__", "__str__", "__len__")
PYTHONS_OWN = set(dir(__builtins__)) | {"print"}
OWN_ATTRIBUTES = set(dir(str) + dir(int) + dir(list) + dir(dict) + dir(set) + dir(bytes))
STATEMENTS = (
    ast.Assign, ast.AugAssign, ast.If, ast.While, ast.For, ast.Return, ast.Break, ast.Continue, ast.Pass, ast.Raise,
    ast.Try, ast.Expr, ast.FunctionDef, ast.ClassDef, ast.ImportFrom,
)
EXPRESSIONS = (
    ast.BoolOp, ast.BinOp, ast.UnaryOp, ast.Lambda, ast.IfExp, ast.Dict, ast.Set, ast.ListComp, ast.Compare, ast.Call,
    ast.FormattedValue, ast.JoinedStr, ast.Constant, ast.Attribute, ast.Subscript, ast.Name, ast.List, ast.Tuple,
    ast.Slice,
)
PLAIN_VALUES = (
    ast.Constant, ast.List, ast.Tuple, ast.Dict, ast.Name, ast.Load, ast.UnaryOp, ast.USub, ast.BinOp, ast.operator,
)


def is_plain_truth(node):
    return isinstance(node, ast.Constant) and (node.value is None or isinstance(node.value, bool))


def is_docstring(node):
    return isinstance(node, ast.Expr) and isinstance(node.value, ast.Constant) and isinstance(node.value.value, str)


class Check:
    def __init__(self, folder):
        self.folder = pathlib.Path(folder)
        self.findings = []
        self.trees = {}
        self.methods = {}
        self.values = {}

    def find(self, rule, path, line, words):
        self.findings.append(f"{path}:{line}: {rule}: {words}")

    def run(self):
        for path in sorted(self.folder.rglob("*")):
            if "__pycache__" in path.parts or path.is_dir():
                continue
            if not re.fullmatch(r"[a-z0-9_]+\.py", path.name):
                self.find("L1", path, 1, "a file that is no plain .py file")
                continue
            self.check_file(path, path.read_text(encoding="utf-8"))
        self.check_methods_and_values()
        self.check_circles()
        return self.findings

    def check_file(self, path, text):
        self.check_text(path, text)
        tree = ast.parse(text)
        self.trees[path.stem] = tree
        self.check_top(path, tree)
        taken = {node.name for node in tree.body if isinstance(node, ast.ClassDef)}
        for node in tree.body:
            if isinstance(node, ast.ImportFrom):
                taken |= {alias.asname or alias.name for alias in node.names}
        for node in ast.walk(tree):
            self.check_node(path, node, taken)

    def check_text(self, path, text):
        lines = text.split("\n")
        if len(lines) > 401:
            self.find("L10", path, len(lines), "a file of more than 400 lines")
        for number, line in enumerate(lines, 1):
            if len(line) > 120:
                self.find("L10", path, number, "a line of more than 120 characters")
            if re.search(r"[^ -~]", line):
                self.find("L14", path, number, "a sign that is not from the blank to ~")
            if BAD_WORDS.search(line):
                self.find("L17", path, number, "a word that stands nowhere")

    def check_top(self, path, tree):
        names = []
        for place, node in enumerate(tree.body):
            if isinstance(node, (ast.FunctionDef, ast.ClassDef)):
                names.append((node.name, node.lineno))
            elif isinstance(node, ast.Assign):
                names += [(target.id, node.lineno) for target in node.targets if isinstance(target, ast.Name)]
                for part in ast.walk(node.value):
                    if not isinstance(part, PLAIN_VALUES):
                        self.find("L3", path, node.lineno, "a name of the top without a plain value")
            elif isinstance(node, ast.ImportFrom):
                names += [(alias.asname or alias.name, node.lineno) for alias in node.names]
            elif not (place == 0 and is_docstring(node)):
                self.find("L3", path, node.lineno, "a statement that does not stand at a file's top")
        seen = set()
        for name, line in names:
            if name in seen:
                self.find("L15", path, line, f"{name} is bound twice at the top")
            if name in PYTHONS_OWN:
                self.find("L8", path, line, f"{name} is a name of Python's own")
            seen.add(name)

    def check_node(self, path, node, taken):
        line = getattr(node, "lineno", 1)
        if isinstance(node, ast.stmt) and not isinstance(node, STATEMENTS):
            self.find("L6", path, line, "a statement outside the list")
        if isinstance(node, ast.expr) and not isinstance(node, EXPRESSIONS):
            self.find("L7", path, line, "an expression outside the list")
        check = getattr(self, "check_" + node.__class__.__name__, None)
        if check:
            check(path, node, taken)

    def check_ImportFrom(self, path, node, taken):
        own = (node.module or "").startswith(self.folder.name + ".") and node.level == 0
        future = node.module == "__future__" and [alias.name for alias in node.names] == ["annotations"]
        if not (own or future) or node.names[0].name == "*" or node.col_offset != 0:
            self.find("L2", path, node.lineno, "an import that is none of the package's own")

    def check_FunctionDef(self, path, node, taken):
        arguments = node.args
        if arguments.vararg or arguments.kwarg or arguments.kwonlyargs or arguments.posonlyargs:
            self.find("L4", path, node.lineno, "parameters that are not plain")
        if node.decorator_list:
            self.find("L4", path, node.lineno, "a decorator")
        if not all(isinstance(value, (ast.Constant, ast.UnaryOp)) for value in arguments.defaults):
            self.find("L4", path, node.lineno, "a default that is no plain value")
        if node.end_lineno - node.lineno + 1 > 40:
            self.find("L10", path, node.lineno, "a function of more than 40 lines")
        self.check_own_name(path, node.lineno, node.name)
        for argument in arguments.args:
            self.check_local(path, node.lineno, argument.arg, taken)

    def check_ClassDef(self, path, node, taken):
        if node.decorator_list or node.keywords or len(node.bases) > 1:
            self.find("L5", path, node.lineno, "a class that is not plain")
        seen = set()
        for part in node.body:
            if isinstance(part, ast.FunctionDef):
                if part.name in seen:
                    self.find("L18", path, part.lineno, f"{part.name} stands twice")
                seen.add(part.name)
                self.methods.setdefault(part.name, (path, part.lineno))
            elif not isinstance(part, ast.Pass) and not is_docstring(part):
                self.find("L5", path, part.lineno, "a class body with more than methods")
        self.check_own_name(path, node.lineno, node.name)

    def check_Expr(self, path, node, taken):
        if not isinstance(node.value, ast.Call) and not is_docstring(node):
            self.find("L6", path, node.lineno, "a statement that is no call")

    def check_Assign(self, path, node, taken):
        if len(node.targets) != 1:
            self.find("L6", path, node.lineno, "more than one target")

    def check_For(self, path, node, taken):
        if node.orelse:
            self.find("L6", path, node.lineno, "an else behind a loop")

    check_While = check_For

    def check_Try(self, path, node, taken):
        if node.finalbody:
            self.find("L6", path, node.lineno, "a finally")
        for handler in node.handlers:
            if handler.type is None or ast.unparse(handler.type) in ("Exception", "TypeError", "BaseException"):
                self.find("L19", path, handler.lineno, "an except of no named refusal")

    def check_BinOp(self, path, node, taken):
        if isinstance(node.op, (ast.Div, ast.MatMult)):
            self.find("L7", path, node.lineno, "a / or @")
        if isinstance(node.op, ast.Pow) and not isinstance(node.right, ast.Constant):
            self.find("L27", path, node.lineno, "an exponent that is not written")

    def check_ListComp(self, path, node, taken):
        if len(node.generators) != 1 or len(node.generators[0].ifs) > 1:
            self.find("L7", path, node.lineno, "a comprehension of more than one for or if")

    def check_Compare(self, path, node, taken):
        sides = [node.left] + node.comparators
        for op, left, right in zip(node.ops, sides, sides[1:]):
            if isinstance(op, (ast.Is, ast.IsNot)):
                if not is_plain_truth(left) and not is_plain_truth(right):
                    self.find("L20", path, node.lineno, "is beside something else than None, True, False")

    def check_Constant(self, path, node, taken):
        if isinstance(node.value, (float, complex, bytes)) or node.value is ...:
            self.find("L7", path, node.lineno, "a value outside the list")
        if isinstance(node.value, str) and "%" in node.value:
            self.find("L27", path, node.lineno, "a percent sign within a text")

    def check_FormattedValue(self, path, node, taken):
        if not isinstance(node.value, ast.Name) or node.format_spec or node.conversion not in (-1, ord("r")):
            self.find("L7", path, node.lineno, "an f-string that is not plain")

    def check_Name(self, path, node, taken):
        if isinstance(node.ctx, ast.Store):
            self.check_local(path, node.lineno, node.id, taken)
        elif node.id in PYTHONS_OWN and node.id not in BUILTINS:
            self.find("L8", path, node.lineno, f"the name {node.id}")
        if node.id in BAD_NAMES:
            self.find("L17", path, node.lineno, f"the name {node.id}")

    def check_Attribute(self, path, node, taken):
        if node.attr in BAD_ATTRIBUTES:
            self.find("L17", path, node.lineno, f"the name {node.attr}")
        elif node.attr in OWN_ATTRIBUTES and node.attr not in METHODS and node.attr not in DUNDER_METHODS:
            self.find("L25", path, node.lineno, f"the method {node.attr}")
        elif node.attr.startswith("_") and node.attr not in DUNDER_METHODS:
            self.find("L12", path, node.lineno, f"the name {node.attr}")
        if isinstance(node.ctx, ast.Store):
            self.values.setdefault(node.attr, (path, node.lineno))

    def check_own_name(self, path, line, name):
        if name.startswith("_") and name not in DUNDER_METHODS:
            self.find("L12", path, line, f"the name {name}")
        if name in BAD_NAMES:
            self.find("L17", path, line, f"the name {name}")

    def check_local(self, path, line, name, taken):
        self.check_own_name(path, line, name)
        if name in taken or name in PYTHONS_OWN:
            self.find("L15", path, line, f"{name} is a name of this file or of Python's own already")

    def check_methods_and_values(self):
        for name, place in self.values.items():
            if name in self.methods:
                self.find("L18", place[0], place[1], f"{name} is a value here and a method elsewhere")

    def check_circles(self):
        draws = {}
        for name, tree in self.trees.items():
            modules = [node.module for node in tree.body if isinstance(node, ast.ImportFrom) and node.module]
            draws[name] = [module.split(".")[-1] for module in modules]
        for name in draws:
            reached = []
            waiting = list(draws[name])
            while waiting:
                other = waiting.pop()
                if other not in reached:
                    reached.append(other)
                    waiting += draws.get(other, [])
            if name in reached:
                self.find("L16", self.folder / (name + ".py"), 1, "a file that draws from itself in some steps")


if __name__ == "__main__":
    told = Check(sys.argv[1]).run()
    print("\n".join(told) if told else "language: nothing found")
    sys.exit(1 if told else 0)
