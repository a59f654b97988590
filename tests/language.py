"""A reading of LANGUAGE.md: tells which rules a file of the package breaks, and on which lines.

It is stricter than the rules where that's simpler: no generator expressions, annotations or bytes.
"""

import ast
import builtins
import io
import re
import tokenize

PACKAGE = "tallyring"
BUILTINS = set(
    "len range enumerate zip min max sum abs sorted reversed int str bool list tuple dict set isinstance ord repr "
    "any all divmod iter next Exception ValueError TypeError KeyError IndexError LookupError ZeroDivisionError "
    "ArithmeticError OverflowError RuntimeError NotImplementedError AttributeError StopIteration NotImplemented "
    "property staticmethod classmethod super".split()
)
BUILTIN_NAMES = set(dir(builtins))
ERRORS = {name for name in BUILTINS if name.endswith("Error") or name in ("Exception", "StopIteration")}
METHODS = set(
    "append clear copy count endswith extend find get index insert isalnum isalpha isdigit islower isspace isupper "
    "items join keys ljust lower lstrip partition pop remove replace reverse rfind rjust rpartition rsplit rstrip "
    "setdefault split splitlines startswith strip update upper values zfill bit_length title capitalize swapcase "
    "casefold center expandtabs removeprefix removesuffix rindex isascii isdecimal isnumeric istitle isidentifier "
    "isprintable add discard sort".split()
)
TAKEN_ATTRIBUTES = set().union(*(dir(kind) for kind in (str, int, list, dict, set, bytes))) - set(
    "count index title find get join lower upper split strip copy add".split()
)
DOUBLE_UNDERSCORE = set(
    "__init__ __eq__ __repr__ __str__ __len__ __enter__ __exit__ __call__ __iter__ __bool__ __name__ __all__ "
    "__version__ __slots__ __lt__ __le__ __gt__ __ge__ __ne__ __contains__ __getitem__ __setitem__".split()
)
BARRED_NAMES = set(
    "register mro elements open input version_info with_traceback add_note attrgetter breakpoint builtins compile "
    "copyright credits delattr dir eval exec exit gc getattr globals hasattr help id importlib license locals "
    "methodcaller os quit setattr type vars sys format format_map".split()
)
BARRED_WORDS = re.compile(
    r"\b(type|typing|typing_extensions|enum|Enum|IntEnum|StrEnum|Flag|IntFlag|Generic|Protocol|ABC|ABCMeta|"
    r"namedtuple|NamedTuple|TypedDict|TYPE_CHECKING|abstractmethod)\b|dataclass|overload|contextmanager"
)
BARRED_NODES = {
    ast.Import: "L2", ast.Global: "L6", ast.AsyncFunctionDef: "L6", ast.AsyncFor: "L6", ast.AsyncWith: "L6",
    ast.Await: "L6", ast.TryStar: "L6", ast.Div: "L7", ast.MatMult: "L7", ast.GeneratorExp: "L7",
    ast.AnnAssign: "L21", ast.MatchClass: "L6", ast.MatchMapping: "L6",
}
AT_ONCE = {"range", "zip", "enumerate", "reversed"}
TAKES_AT_ONCE = {"list", "tuple", "dict", "sorted", "sum", "any", "all", "enumerate", "zip", "min", "max", "iter"}
KEYWORDS = {
    "sorted": {"key", "reverse"}, "min": {"key", "default"}, "max": {"key", "default"}, "sum": {"start"},
    "enumerate": {"start"}, "zip": {"strict"},
}


def parents_of(tree):
    return {child: node for node in ast.walk(tree) for child in ast.iter_child_nodes(node)}


def called_name(node):
    return node.func.id if isinstance(node, ast.Call) and isinstance(node.func, ast.Name) else None


def is_plain(node):
    if isinstance(node, ast.UnaryOp) and isinstance(node.op, ast.USub):
        return is_plain(node.operand)
    if isinstance(node, (ast.List, ast.Tuple)):
        return all(is_plain(part) for part in node.elts)
    if isinstance(node, ast.Dict):
        return all(part is not None and is_plain(part) for part in node.keys + node.values)
    if isinstance(node, ast.BinOp):
        return is_plain(node.left) and is_plain(node.right)
    return isinstance(node, (ast.Constant, ast.Name))


def holds_changeable(node):
    """Whether a list or dict written out holds another one."""
    parts = [part for part in ast.walk(node) if isinstance(part, (ast.List, ast.Dict))]
    return len(parts) > 1


def is_call_of(node, *names):
    return called_name(node) in names


def is_join(node):
    is_method = isinstance(node, ast.Call) and isinstance(node.func, ast.Attribute) and node.func.attr == "join"
    return is_method and isinstance(node.func.value, ast.Constant)


def is_text(node):
    is_string = isinstance(node, ast.Constant) and isinstance(node.value, str)
    return is_string or isinstance(node, ast.JoinedStr) or is_call_of(node, "str", "repr") or is_join(node)


def is_length(node):
    return is_call_of(node, "len") or isinstance(node, ast.Constant) and type(node.value) is int


TOLD_BY = {"__len__": is_length, "__repr__": is_text, "__str__": is_text}


def bound_names(tree):
    for node in ast.walk(tree):
        if isinstance(node, ast.Name) and isinstance(node.ctx, ast.Store):
            yield node, node.id
        elif isinstance(node, ast.arg):
            yield node, node.arg
        elif isinstance(node, (ast.FunctionDef, ast.ClassDef)):
            yield node, node.name
        elif isinstance(node, ast.ExceptHandler) and node.name:
            yield node, node.name
        elif isinstance(node, ast.alias):
            yield node, node.asname or node.name


class File:
    def __init__(self, source, own_methods=()):
        self.source = source
        self.own_methods = set(own_methods)
        self.tree = ast.parse(source)
        self.parents = parents_of(self.tree)
        self.found = []

    def tell(self, rule, node):
        self.found.append((rule, getattr(node, "lineno", node)))

    def breaches(self):
        self.check_text()
        self.check_strings()
        self.check_module_level()
        self.check_names()
        for node in ast.walk(self.tree):
            if type(node) in BARRED_NODES:
                self.tell(BARRED_NODES[type(node)], node)
            check = getattr(self, "check_" + type(node).__name__, None)
            if check is not None:
                check(node)
        return sorted(self.found)

    def check_text(self):
        lines = self.source.split("\n")
        if len(lines) > 401:
            self.tell("L10", 401)
        for number, line in enumerate(lines, 1):
            if len(line) > 120:
                self.tell("L10", number)
            if not all(" " <= sign <= "~" for sign in line):
                self.tell("L14", number)
            if BARRED_WORDS.search(line):
                self.tell("L17", number)

    def check_strings(self):
        for token in tokenize.generate_tokens(io.StringIO(self.source).readline):
            if token.type == tokenize.STRING:
                if "%" in token.string or re.search(r"\\[^nt\\'\"]", token.string.replace("\\\\", "")):
                    self.tell("L27", token.start[0])
                if re.match(r"[a-zA-Z]*b", token.string.split(token.string[-1])[0].lower()):
                    self.tell("L7", token.start[0])

    def check_module_level(self):
        names = []
        for at, node in enumerate(self.tree.body):
            if isinstance(node, ast.ImportFrom):
                names += [alias.asname or alias.name for alias in node.names]
                if any(not isinstance(early, (ast.ImportFrom, ast.Expr)) for early in self.tree.body[:at]):
                    self.tell("L2", node)
            elif isinstance(node, (ast.FunctionDef, ast.ClassDef)):
                names.append(node.name)
            elif isinstance(node, ast.Assign) and len(node.targets) == 1 and is_plain(node.value):
                if holds_changeable(node.value):
                    self.tell("L15", node)
                names += [node.targets[0].id] if isinstance(node.targets[0], ast.Name) else []
            elif not (at == 0 and isinstance(node, ast.Expr) and isinstance(node.value, ast.Constant)):
                self.tell("L3", node)
        if len(names) != len(set(names)):
            self.tell("L15", 1)

    def check_names(self):
        outer = {
            name for node, name in bound_names(self.tree) if isinstance(node, (ast.alias, ast.ClassDef))
        }
        methods = {item for node in ast.walk(self.tree) if isinstance(node, ast.ClassDef) for item in node.body}
        for node, name in bound_names(self.tree):
            if name.startswith("__") and name not in DOUBLE_UNDERSCORE:
                self.tell("L5", node)
            if not name.startswith("__") and not re.fullmatch(r"[a-zA-Z][a-zA-Z0-9_]*", name):
                self.tell("L12", node)
            if name in BARRED_NAMES:
                self.tell("L17", node)
            if name in BUILTIN_NAMES and node not in methods:
                self.tell("L15", node)
            if name in outer and not isinstance(node, (ast.alias, ast.ClassDef)):
                self.tell("L15", node)

    def check_ImportFrom(self, node):
        names = [alias.name for alias in node.names]
        if node.level or "*" in names or not (node.module or "").startswith(PACKAGE + "."):
            self.tell("L2", node)
        if self.parents[node] is not self.tree:
            self.tell("L2", node)

    def check_FunctionDef(self, node):
        if node.end_lineno - node.lineno >= 40:
            self.tell("L10", node)
        if node.args.posonlyargs or not all(is_plain(part) for part in node.args.defaults):
            self.tell("L4", node)
        if node.decorator_list and not isinstance(self.parents[node], ast.ClassDef):
            self.tell("L4", node)
        if node.returns or any(arg.annotation for arg in ast.walk(node.args) if isinstance(arg, ast.arg)):
            self.tell("L21", node)
        if node.name == "__init__":
            for part in ast.walk(node):
                if isinstance(part, ast.Return) and part.value is not None:
                    self.tell("L28", part)
        if node.name in ("__eq__", "__len__", "__repr__", "__str__"):
            self.check_told_by(node)

    def check_told_by(self, node):
        is_told = TOLD_BY.get(node.name, lambda value: value is not None)
        for part in ast.walk(node):
            if isinstance(part, ast.Return) and not is_told(part.value):
                self.tell("L28", part)
            if isinstance(part, (ast.Attribute, ast.Subscript)) and not isinstance(part.ctx, ast.Load):
                self.tell("L28", part)
        if not isinstance(node.body[-1], ast.Return) or not isinstance(self.parents[node], ast.ClassDef):
            self.tell("L28", node)

    def check_ClassDef(self, node):
        if node.decorator_list or node.keywords:
            self.tell("L5", node)
        if self.parents[node] is not self.tree:
            self.tell("L15", node)
        for item in node.body:
            is_docstring = isinstance(item, ast.Expr) and isinstance(item.value, ast.Constant)
            if not (is_docstring or isinstance(item, (ast.FunctionDef, ast.Assign))):
                self.tell("L5", item)

    def check_Name(self, node):
        if node.id in BUILTIN_NAMES and node.id not in BUILTINS:
            self.tell("L8", node)
        if node.id in AT_ONCE | {"len", "sorted", "sum", "any", "all", "print"}:
            parent = self.parents[node]
            if not (isinstance(parent, ast.Call) and parent.func is node):
                self.tell("L22", node)

    def check_Constant(self, node):
        if isinstance(node.value, (float, complex)):
            self.tell("L7", node)

    def check_Attribute(self, node):
        if node.attr in BARRED_NAMES:
            self.tell("L17", node)
        if isinstance(node.ctx, ast.Store):
            if node.attr in TAKEN_ATTRIBUTES or node.attr == "args":
                self.tell("L26", node)
            if not isinstance(node.value, ast.Name):
                return
            if node.value.id[0].isupper():
                self.tell("L18", node)

    def check_Compare(self, node):
        for sign, part in zip(node.ops, node.comparators):
            if isinstance(sign, (ast.Is, ast.IsNot)):
                if not (isinstance(part, ast.Constant) and part.value in (None, True, False)):
                    self.tell("L20", node)

    def check_BinOp(self, node):
        if isinstance(node.op, ast.Pow):
            right = node.right
            if not (isinstance(right, ast.Constant) and right.value in range(65)):
                self.tell("L27", node)

    def check_Call(self, node):
        name = called_name(node)
        if name in AT_ONCE:
            self.check_at_once(node)
        if name in BUILTINS and name not in ERRORS:
            if not {keyword.arg for keyword in node.keywords} <= KEYWORDS.get(name, set()):
                self.tell("L22", node)
        if name == "set":
            self.check_set(node)
        if isinstance(node.func, ast.Attribute):
            method = node.func.attr
            if method in ("items", "keys", "values"):
                self.check_at_once(node)
            if method not in METHODS | self.own_methods | {"__init__"}:
                self.tell("L25", node)
            if method in METHODS - self.own_methods - {"sort"} and node.keywords:
                self.tell("L25", node)

    def check_at_once(self, node):
        parent = self.parents[node]
        is_iterated = isinstance(parent, (ast.For, ast.comprehension)) and parent.iter is node
        is_taken = called_name(parent) in TAKES_AT_ONCE or called_name(parent) in ("len", "reversed")
        is_joined = isinstance(parent, ast.Call) and getattr(parent.func, "attr", None) == "join"
        is_searched = isinstance(parent, ast.Compare) and isinstance(parent.ops[-1], (ast.In, ast.NotIn))
        if not (is_iterated or is_taken or is_joined or is_searched):
            self.tell("L23", node)

    def check_set(self, node):
        parent = self.parents[node]
        is_stored = isinstance(parent, ast.Assign) and isinstance(parent.targets[0], ast.Name)
        is_taken = called_name(parent) in ("len", "sorted")
        if not (is_stored or is_taken or isinstance(parent, (ast.Compare, ast.BinOp))):
            self.tell("L24", node)

    def check_Set(self, node):
        self.check_set(node)
        numbers = [part for part in node.elts if isinstance(part, ast.Constant) and isinstance(part.value, int)]
        if len(numbers) > 2:
            self.tell("L13", node)

    def check_SetComp(self, node):
        self.check_set(node)

    def check_Raise(self, node):
        if node.exc is None:
            return
        name = called_name(node.exc)
        if name is None or not name[0].isupper():
            self.tell("L19", node)

    def check_ExceptHandler(self, node):
        caught = node.type.elts if isinstance(node.type, ast.Tuple) else [node.type]
        names = [part.id if isinstance(part, ast.Name) else None for part in caught]
        if not names or None in names or {"Exception", "TypeError", "BaseException"} & set(names):
            self.tell("L19", node)


def breaches(source, own_methods=()):
    return File(source, own_methods).breaches()
