"""Finds code outside the part of Python that the package keeps to; rules by their numbers (L1 to L28).

It sees what can be seen without running anything; a reader still looks at the rest.
"""

import ast
import builtins
import re

PACKAGE = "doneroom"
BUILTINS = set(
    "len range enumerate zip min max sum abs sorted reversed int str bool list tuple dict set frozenset isinstance "
    "ord repr any all divmod Exception ValueError TypeError KeyError IndexError LookupError ZeroDivisionError "
    "ArithmeticError OverflowError RuntimeError NotImplementedError AttributeError StopIteration".split()
)
METHODS = set(
    "append clear copy count endswith extend find get index insert isalnum isalpha isdigit islower isspace isupper "
    "items join keys ljust lower lstrip partition pop remove replace reverse rfind rjust rpartition rsplit rstrip "
    "setdefault split splitlines startswith strip update upper values zfill bit_length".split()
)
CHANGING = set("append clear extend insert pop remove reverse setdefault update".split())
SPECIAL = set("__init__ __eq__ __repr__ __str__ __len__".split())
NEVER_NAMED = set("register mro elements open input version_info with_traceback add_note".split())
BANNED_WORDS = (
    r"\b(type|typing|typing_extensions|enum|Enum|IntEnum|StrEnum|Flag|IntFlag|Generic|Protocol|ABC|ABCMeta|namedtuple"
    r"|NamedTuple|TypedDict|TYPE_CHECKING|abstractmethod)\b|dataclass|overload|contextmanager"
)
STATEMENTS = (
    ast.Assign, ast.AugAssign, ast.If, ast.While, ast.For, ast.Return, ast.Break, ast.Continue, ast.Pass, ast.Raise,
    ast.Try, ast.Expr, ast.FunctionDef, ast.ClassDef, ast.ImportFrom, ast.Module,
)
EXPRESSIONS = (
    ast.BoolOp, ast.BinOp, ast.UnaryOp, ast.Lambda, ast.IfExp, ast.Dict, ast.Set, ast.ListComp, ast.Compare, ast.Call,
    ast.FormattedValue, ast.JoinedStr, ast.Constant, ast.Attribute, ast.Subscript, ast.Name, ast.List, ast.Tuple,
    ast.Slice,
)
WALKED = ("zip", "enumerate", "reversed", "range")
WALKED_METHODS = ("items", "keys", "values")
VALUES_TOO = set("count index title find get join lower upper split strip copy add".split())
WALKERS = ("list", "tuple", "dict", "sorted", "sum", "any", "all", "enumerate", "zip", "min", "max")


class Check:
    def __init__(self, name, text):
        self.name = name
        self.text = text
        self.tree = ast.parse(text)
        self.found = []
        self.above = {}
        for node in ast.walk(self.tree):
            for child in ast.iter_child_nodes(node):
                self.above[child] = node
        self.own = set()
        for node in ast.walk(self.tree):
            if isinstance(node, (ast.FunctionDef, ast.ClassDef)):
                self.own.add(node.name)
            elif isinstance(node, ast.arg):
                self.own.add(node.arg)
            elif isinstance(node, ast.alias):
                self.own.add(node.asname or node.name)
            elif isinstance(node, ast.ExceptHandler) and node.name:
                self.own.add(node.name)
            elif isinstance(node, ast.Name) and isinstance(node.ctx, ast.Store):
                self.own.add(node.id)

    def fault(self, rule, node, why):
        self.found.append(f"{self.name}:{getattr(node, 'lineno', 1)}: {rule} {why}")

    def all(self):
        self.signs()
        self.top()
        for node in ast.walk(self.tree):
            self.statement(node)
            self.expression(node)
            self.names(node)
        return self.found

    def signs(self):
        rows = self.text.split("\n")
        for at, row in enumerate(rows, start=1):
            place = ast.Pass(lineno=at)
            if len(row) > 120:
                self.fault("L10", place, "a line too long")
            if any(not " " <= sign <= "~" for sign in row):
                self.fault("L14", place, "another sign")
            if re.search(BANNED_WORDS, row):
                self.fault("L17", place, "a word that stands nowhere")
        if len(rows) > 401:
            self.fault("L10", self.tree, "a file too long")

    def top(self):
        bound = []
        for at, node in enumerate(self.tree.body):
            if isinstance(node, (ast.FunctionDef, ast.ClassDef)):
                bound.append(node.name)
            elif isinstance(node, ast.ImportFrom):
                bound += [alias.asname or alias.name for alias in node.names]
            elif isinstance(node, ast.Assign) and isinstance(node.targets[0], ast.Name):
                bound.append(node.targets[0].id)
                self.plain_value(node.value)
            elif not (at == 0 and isinstance(node, ast.Expr) and isinstance(node.value, ast.Constant)):
                self.fault("L3", node, "something else at the top")
        if len(set(bound)) != len(bound):
            self.fault("L15", self.tree, "a name bound twice at the top")
        self.hidden_names()

    # A class or an import of the file whose name a parameter or a local takes.
    def hidden_names(self):
        kept = set()
        for node in self.tree.body:
            if isinstance(node, ast.ClassDef):
                kept.add(node.name)
            elif isinstance(node, ast.ImportFrom):
                kept |= {alias.asname or alias.name for alias in node.names}
        for node in ast.walk(self.tree):
            told = node.arg if isinstance(node, ast.arg) else None
            if isinstance(node, ast.Name) and isinstance(node.ctx, ast.Store):
                told = node.id
            if told in kept:
                self.fault("L15", node, told)

    def plain_value(self, node):
        for inner in ast.walk(node):
            good = (ast.Constant, ast.List, ast.Tuple, ast.Dict, ast.Name, ast.UnaryOp, ast.USub, ast.Load)
            if not isinstance(inner, good):
                self.fault("L3", node, "no plain value")
            if inner is not node and isinstance(inner, (ast.List, ast.Dict)):
                self.fault("L15", node, "a list or dict within another")

    def statement(self, node):
        if isinstance(node, ast.stmt) and not isinstance(node, STATEMENTS):
            self.fault("L6", node, node.__class__.__name__)
        if isinstance(node, ast.Assign) and (len(node.targets) != 1 or not isinstance(
            node.targets[0], (ast.Name, ast.Attribute, ast.Subscript)
        )):
            self.fault("L6", node, "more than one target")
        if isinstance(node, (ast.For, ast.While)) and node.orelse:
            self.fault("L6", node, "else behind a loop")
        if isinstance(node, ast.Try) and node.finalbody:
            self.fault("L6", node, "finally")
        if isinstance(node, ast.Expr) and not isinstance(node.value, ast.Call) and node is not self.tree.body[0]:
            self.fault("L6", node, "a value by itself")
        if isinstance(node, ast.ImportFrom):
            self.drawn(node)
        if isinstance(node, ast.FunctionDef):
            self.function(node)
        if isinstance(node, ast.ClassDef):
            self.defined_class(node)
        if isinstance(node, ast.ExceptHandler) and (
            node.type is None or ast.unparse(node.type) in ("Exception", "TypeError")
        ):
            self.fault("L19", node, "taken too widely")
        if isinstance(node, ast.Raise) and not isinstance(node.exc, ast.Call):
            self.fault("L19", node, "an error that isn't made on the spot")
        if isinstance(node, ast.For):
            self.walked_is_kept(node)

    def drawn(self, node):
        if node.level or not (node.module or "").startswith(PACKAGE + ".") or node not in self.tree.body:
            self.fault("L2", node, "an import from elsewhere")
        if any(alias.name == "*" for alias in node.names):
            self.fault("L2", node, "import *")

    def function(self, node):
        if node.end_lineno - node.lineno + 1 > 40:
            self.fault("L10", node, "a function too long")
        told = node.args
        if told.vararg or told.kwarg or told.kwonlyargs or told.posonlyargs or node.decorator_list:
            self.fault("L4", node, "no plain function")

    def defined_class(self, node):
        if node not in self.tree.body or node.decorator_list or node.keywords or len(node.bases) > 1:
            self.fault("L5", node, "no plain class")
        for inner in node.body:
            if not isinstance(inner, (ast.FunctionDef, ast.Pass)):
                self.fault("L5", inner, "a value in a class")

    def walked_is_kept(self, loop):
        walked = ast.unparse(loop.iter)
        for node in ast.walk(loop):
            if isinstance(node, ast.Call) and isinstance(node.func, ast.Attribute) and node.func.attr in CHANGING:
                if ast.unparse(node.func.value) == walked:
                    self.fault("L23", node, "what is walked is changed")

    def expression(self, node):
        if isinstance(node, ast.expr) and not isinstance(node, EXPRESSIONS):
            self.fault("L7", node, node.__class__.__name__)
        if isinstance(node, ast.Constant) and isinstance(node.value, (float, bytes, complex)):
            self.fault("L7", node, "another value")
        if isinstance(node, ast.Constant) and isinstance(node.value, str) and "%" in node.value:
            self.fault("L27", node, "a sign that stands in no text")
        if isinstance(node, (ast.Div, ast.MatMult)):
            self.fault("L7", node, "/ or @")
        if isinstance(node, ast.ListComp) and (len(node.generators) != 1 or len(node.generators[0].ifs) > 1):
            self.fault("L7", node, "more than one for or if")
        if isinstance(node, ast.FormattedValue) and not isinstance(node.value, ast.Name):
            self.fault("L7", node, "no plain name in an f-string")
        if isinstance(node, ast.Compare) and any(isinstance(sign, (ast.Is, ast.IsNot)) for sign in node.ops):
            if not isinstance(node.comparators[0], ast.Constant) or node.comparators[0].value not in (None, True, False):
                self.fault("L20", node, "is beside another thing")
        if isinstance(node, ast.BinOp) and isinstance(node.op, ast.Pow) and not isinstance(node.right, ast.Constant):
            self.fault("L27", node, "a power that isn't written")
        if isinstance(node, ast.Call):
            self.call(node)

    def call(self, node):
        name = node.func.id if isinstance(node.func, ast.Name) else None
        method = node.func.attr if isinstance(node.func, ast.Attribute) else None
        if name in WALKED or method in WALKED_METHODS:
            if not self.is_walked_at_once(node):
                self.fault("L23", node, "kept, not walked at once")
        if name in ("set", "frozenset") and not self.is_set_in_its_place(node):
            self.fault("L24", node, "a set that is kept")
        allowed = {"sorted": "key reverse", "min": "key default", "max": "key default", "sum": "start"}
        allowed.update({"enumerate": "start", "zip": "strict"})
        for keyword in node.keywords:
            if name in BUILTINS - self.own and keyword.arg not in allowed.get(name, "").split():
                self.fault("L22", node, "a keyword")
        if name in BUILTINS and name == "isinstance" and len(node.args) == 2:
            kinds = node.args[1].elts if isinstance(node.args[1], ast.Tuple) else [node.args[1]]
            if not all(isinstance(kind, ast.Name) for kind in kinds):
                self.fault("L22", node, "isinstance of another thing")

    def is_walked_at_once(self, node):
        above = self.above[node]
        if isinstance(above, (ast.For, ast.comprehension)):
            return above.iter is node
        if isinstance(above, ast.Call) and isinstance(above.func, ast.Name):
            return above.func.id in WALKERS and node in above.args
        if isinstance(above, ast.Call) and isinstance(above.func, ast.Attribute) and above.func.attr == "join":
            return isinstance(above.func.value, ast.Constant)
        return False

    def is_set_in_its_place(self, node):
        above = self.above[node]
        while isinstance(above, ast.BinOp):
            above = self.above[above]
        if isinstance(above, ast.Compare):
            return True
        return isinstance(above, ast.Call) and ast.unparse(above.func) in ("sorted", "len") and not above.keywords

    def names(self, node):
        told = None
        if isinstance(node, ast.Name):
            told = node.id
            if told not in self.own and told not in BUILTINS:
                self.fault("L8", node, told)
            if told in BUILTINS and not self.is_builtin_in_its_place(node):
                self.fault("L22", node, told)
        elif isinstance(node, ast.arg):
            told = node.arg
        elif isinstance(node, (ast.FunctionDef, ast.ClassDef)):
            told = node.name
        elif isinstance(node, ast.Attribute):
            self.attribute(node)
        if told is None or told in SPECIAL:
            return
        if told.startswith("_") or not told.isascii():
            self.fault("L12", node, told)
        if told in NEVER_NAMED or (told not in BUILTINS and hasattr(builtins, told)):
            self.fault("L17", node, told)
        if told in BUILTINS and not (isinstance(node, ast.Name) and isinstance(node.ctx, ast.Load)):
            self.fault("L15", node, told)

    # Python's own are called, or name a kind beside isinstance, except, raise or as a base.
    def is_builtin_in_its_place(self, node):
        above = self.above[node]
        if isinstance(above, ast.Tuple):
            above = self.above[above]
        if isinstance(above, (ast.Call, ast.ClassDef, ast.ExceptHandler)):
            return True
        return isinstance(above, ast.keyword) and above.arg == "key"

    def attribute(self, node):
        told = node.attr
        is_call = isinstance(self.above[node], ast.Call) and self.above[node].func is node
        if told in NEVER_NAMED or told in ("format", "format_map"):
            self.fault("L17", node, told)
        if told.startswith("_") and told not in SPECIAL:
            self.fault("L12", node, told)
        python = any(hasattr(kind, told) for kind in (str, int, list, dict, set, tuple, bytes)) and told not in SPECIAL
        if isinstance(node.ctx, ast.Store) and python and told not in VALUES_TOO:
            self.fault("L26", node, told)
        if is_call and python and told not in METHODS:
            self.fault("L25", node, told)
        if not is_call and told in METHODS:
            self.fault("L25", node, told)


# Names that are a method in one class and a value in another, in all these texts.
def methods_and_values(texts):
    methods, values = set(), set()
    for text in texts:
        for node in ast.walk(ast.parse(text)):
            if isinstance(node, ast.ClassDef):
                methods |= {inner.name for inner in node.body if isinstance(inner, ast.FunctionDef)}
            if isinstance(node, ast.Attribute) and isinstance(node.ctx, ast.Store):
                values.add(node.attr)
    return methods & values


def faults(name, text):
    return Check(name, text).all()
