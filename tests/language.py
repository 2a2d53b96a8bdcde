"""A reader of the package's files that tells which rows lie outside the language it keeps to.

It is narrower than the language where the package needs no more: a form that isn't listed
here is told, and is added when the package first needs it and the language lets it by.
"""

import ast
import builtins
import re

NODES = """Module Expr Constant ImportFrom alias FunctionDef arguments arg ClassDef Assign AugAssign
    If While For Return Break Continue Pass Raise Try ExceptHandler Call keyword Attribute Subscript Slice
    Name Load Store Tuple List Dict BinOp UnaryOp BoolOp Compare IfExp ListComp DictComp SetComp comprehension
    Lambda Add Sub Mult FloorDiv Mod Pow BitAnd BitOr BitXor LShift RShift And Or Not USub
    Eq NotEq Lt LtE Gt GtE Is IsNot In NotIn JoinedStr FormattedValue""".split()
BUILTINS = """len range enumerate zip min max sum abs sorted reversed int str bool list tuple dict set
    isinstance ord repr any all divmod ValueError KeyError IndexError LookupError ZeroDivisionError""".split()
METHODS = """append clear copy count endswith extend find get index insert isalnum isalpha isdigit islower
    isspace isupper items join keys ljust lower lstrip partition pop remove replace reverse rfind rjust
    rpartition rsplit rstrip setdefault split splitlines startswith strip update upper values zfill
    isascii removeprefix""".split()
KEYWORDS = {"sorted": ["key", "reverse"], "min": ["key", "default"], "max": ["key", "default"],
            "sum": ["start"], "enumerate": ["start"], "zip": ["strict"]}
UNUSED = """register mro elements open input version_info with_traceback add_note attrgetter breakpoint builtins
    compile copyright credits delattr dir eval exec exit gc getattr globals hasattr help id importlib license
    locals methodcaller os quit setattr super sys vars chr frozenset print""".split()
WORDS = r"""\b(type|typing|typing_extensions|enum|Enum|IntEnum|StrEnum|Flag|IntFlag|Generic|Protocol|ABC|ABCMeta
    |namedtuple|NamedTuple|TypedDict|TYPE_CHECKING|abstractmethod)\b|dataclass|overload|contextmanager"""
OWN_VALUES = ("", 1, b"", [], {}, (), set())
DUNDERS = ["__init__", "__eq__", "__repr__", "__str__", "__len__"]


def faults(text, package="emptierbox"):
    """The rows of a file that lie outside the language, as texts."""
    found = faults_of_signs(text)
    tree = ast.parse(text)
    found += faults_of_top(tree, package)
    for node in ast.walk(tree):
        if type(node).__name__ not in NODES:
            found.append(f"form {type(node).__name__} at {getattr(node, 'lineno', 0)}")
        for look in (fault_of_def, fault_of_name, fault_of_value, fault_of_call, fault_of_set):
            why = look(node)
            if why:
                found.append(f"{why} at {getattr(node, 'lineno', 0)}")
    return found + faults_of_names(tree) + faults_of_locals(tree) + faults_of_walks(tree) + faults_of_methods(tree)


def faults_of_signs(text):
    found = []
    rows = text.split("\n")
    if len(rows) - 1 > 400:
        found.append("more than 400 rows")
    for at, row in enumerate(rows, start=1):
        if len(row) > 120:
            found.append(f"a long row at {at}")
        if not all(" " <= sign <= "~" for sign in row):
            found.append(f"a strange sign at {at}")
    if re.search(WORDS, text, re.VERBOSE):
        found.append("a word that stands nowhere")
    if re.search(r"\\[^nt\\'\"]", text):
        found.append("an escape that isn't used")
    return found


def faults_of_top(tree, package):
    found, bound = [], []
    for row in tree.body:
        if isinstance(row, ast.ImportFrom):
            if row.level or not (row.module or "").startswith(package + "."):
                found.append(f"an import from elsewhere at {row.lineno}")
            if any(name.name == "*" for name in row.names):
                found.append(f"an import of everything at {row.lineno}")
            bound += [name.asname or name.name for name in row.names]
        elif isinstance(row, (ast.FunctionDef, ast.ClassDef)):
            bound.append(row.name)
        elif isinstance(row, ast.Assign) and len(row.targets) == 1 and isinstance(row.targets[0], ast.Name):
            bound.append(row.targets[0].id)
            if any(isinstance(part, (ast.Call, ast.ListComp, ast.DictComp, ast.Lambda)) for part in ast.walk(row)):
                found.append(f"no plain value at {row.lineno}")
        elif not (isinstance(row, ast.Expr) and isinstance(row.value, ast.Constant) and row is tree.body[0]):
            found.append(f"a deed at the top at {row.lineno}")
    found += [f"{name} bound twice" for name in set(bound) if bound.count(name) > 1]
    inner = [row for part in tree.body for row in ast.walk(part) if row is not part]
    found += [f"an import or a class within at {row.lineno}" for row in inner
              if isinstance(row, (ast.ImportFrom, ast.Import, ast.ClassDef))]
    return found


def fault_of_def(node):
    if isinstance(node, (ast.FunctionDef, ast.ClassDef)) and node.decorator_list:
        return "a decorator"
    if isinstance(node, ast.FunctionDef) and node.end_lineno - node.lineno >= 40:
        return "a long def"
    if isinstance(node, ast.arguments) and (node.vararg or node.kwarg or node.posonlyargs):
        return "parameters that aren't plain"
    if isinstance(node, ast.ClassDef):
        if len(node.bases) > 1 or node.keywords:
            return "more than one base"
        if not all(isinstance(row, (ast.FunctionDef, ast.Expr, ast.Pass)) for row in node.body):
            return "a value in a class"
    if isinstance(node, (ast.For, ast.While)) and node.orelse:
        return "an else behind a loop"
    if isinstance(node, ast.Try) and node.finalbody:
        return "a finally"
    return ""


def fault_of_name(node):
    name = (getattr(node, "id", "") or getattr(node, "attr", "") or getattr(node, "arg", "")
            or getattr(node, "name", ""))
    if not isinstance(name, str):
        return ""
    if name in UNUSED or (name.startswith("_") and name not in DUNDERS) or not name.isascii():
        return f"the name {name}"
    if isinstance(node, ast.Name) and isinstance(node.ctx, ast.Store) and name in BUILTINS:
        return f"{name} given another meaning"
    if isinstance(node, (ast.arg, ast.FunctionDef, ast.ClassDef)) and name in BUILTINS:
        return f"{name} given another meaning"
    return ""


def fault_of_value(node):
    if isinstance(node, ast.Constant):
        if not isinstance(node.value, (int, str, type(None))):
            return "a value that isn't used"
        if isinstance(node.value, str) and "%" in node.value:
            return "a sign in a text"
    if isinstance(node, ast.FormattedValue) and node.format_spec:
        return "a format"
    if isinstance(node, ast.BinOp) and isinstance(node.op, ast.Pow):
        if not (isinstance(node.right, ast.Constant) and node.right.value in range(65)):
            return "an exponent that isn't written"
    if isinstance(node, ast.Compare):
        for sign, beside in zip(node.ops, node.comparators):
            # By identity, since 1 equals True.
            fitting = isinstance(beside, ast.Constant) and any(beside.value is one for one in (None, True, False))
            if isinstance(sign, (ast.Is, ast.IsNot)) and not fitting:
                return "an is beside another value"
    return ""


def fault_of_call(node):
    if not isinstance(node, ast.Call):
        return ""
    if isinstance(node.func, ast.Name) and node.func.id in BUILTINS:
        for word in node.keywords:
            if word.arg not in KEYWORDS.get(node.func.id, []):
                return f"the keyword {word.arg}"
    return ""


def fault_of_set(node):
    """A set comprehension and set(..) stand straight within sorted(..) and len(..), or behind in."""
    fitting = []
    if isinstance(node, ast.Call) and isinstance(node.func, ast.Name) and node.func.id in ("sorted", "len"):
        fitting = node.args if not node.keywords else []
    if isinstance(node, ast.Compare):
        fitting = node.comparators
    for part in ast.iter_child_nodes(node):
        called = isinstance(part, ast.Call) and isinstance(part.func, ast.Name) and part.func.id == "set"
        if (called or isinstance(part, ast.SetComp)) and not any(part is one for one in fitting):
            return "a set that is kept"
    return ""


def faults_of_names(tree):
    """Names that nothing in the file gives and that aren't among Python's own that are listed."""
    given = {"self"}
    for node in ast.walk(tree):
        if isinstance(node, ast.Name) and isinstance(node.ctx, ast.Store):
            given.add(node.id)
        if isinstance(node, ast.arg):
            given.add(node.arg)
        if isinstance(node, (ast.FunctionDef, ast.ClassDef, ast.ExceptHandler)) and node.name:
            given.add(node.name)
        if isinstance(node, ast.alias):
            given.add(node.asname or node.name)
    return [f"the name {node.id} at {node.lineno}" for node in ast.walk(tree)
            if isinstance(node, ast.Name) and node.id not in given and node.id not in BUILTINS]


def faults_of_locals(tree):
    """Parameters and locals that are called like an import, a class or a name of Python's own."""
    taken = set(dir(builtins))
    for row in tree.body:
        taken.update(name.asname or name.name for name in getattr(row, "names", []))
        if isinstance(row, ast.ClassDef):
            taken.add(row.name)
    found = []
    for row in tree.body:
        for node in ast.walk(row) if isinstance(row, (ast.FunctionDef, ast.ClassDef)) else []:
            stored = isinstance(node, ast.Name) and isinstance(node.ctx, ast.Store)
            name = node.arg if isinstance(node, ast.arg) else node.id if stored else ""
            if name in taken:
                found.append(f"{name} given another meaning at {node.lineno}")
    return found


CHANGES = ("append", "clear", "extend", "insert", "pop", "remove", "reverse", "setdefault", "sort", "update")


def names_in(node):
    return {part.id for part in ast.walk(node) if isinstance(part, ast.Name)}


def changed_in(node):
    """The names of what is changed somewhere within, by an item, a slice or a method."""
    found = set()
    for part in ast.walk(node):
        if isinstance(part, ast.Subscript) and isinstance(part.ctx, (ast.Store, ast.Del)):
            found |= names_in(part.value)
        if isinstance(part, ast.Call) and isinstance(part.func, ast.Attribute) and part.func.attr in CHANGES:
            found |= names_in(part.func.value)
    return found


def faults_of_walks(tree):
    """Loops in which what they walk is changed."""
    return [f"a walk over what is changed at {node.lineno}" for node in ast.walk(tree)
            if isinstance(node, ast.For) and names_in(node.iter) & set().union(*map(changed_in, node.body))]


def methods(tree):
    """The names of the methods that a file's classes have, each as often as it stands there."""
    return [row.name for part in tree.body if isinstance(part, ast.ClassDef)
            for row in part.body if isinstance(row, ast.FunctionDef)]


def faults_of_methods(tree):
    """Methods that are called and are neither Python's own that are listed nor of a class of the file."""
    found = [f"the method {node.func.attr} at {node.lineno}" for node in ast.walk(tree)
             if isinstance(node, ast.Call) and isinstance(node.func, ast.Attribute)
             and node.func.attr not in METHODS + methods(tree)]
    for part in tree.body:
        own = methods(ast.Module([part], []))
        found += [f"{name} stands twice at {part.lineno}" for name in set(own) if own.count(name) > 1]
    return found + [f"{name} is a method of Python's own values" for name in methods(tree)
                    if name not in DUNDERS and any(hasattr(one, name) for one in OWN_VALUES)]


def values(tree):
    """The values that objects are given in a file, and those that are asked of them."""
    called = [id(node.func) for node in ast.walk(tree) if isinstance(node, ast.Call)]
    found = [node for node in ast.walk(tree) if isinstance(node, ast.Attribute) and id(node) not in called]
    given = {node.attr for node in found if isinstance(node.ctx, ast.Store)}
    return given, {node.attr for node in found}


def drawn(tree):
    """Each file of the package that a file draws from, with the names drawn."""
    return {row.module.split(".")[-1]: [name.name for name in row.names]
            for row in tree.body if isinstance(row, ast.ImportFrom)}


def defined(tree):
    """The names that a file defines itself."""
    names = [row.name for row in tree.body if isinstance(row, (ast.FunctionDef, ast.ClassDef))]
    return names + [row.targets[0].id for row in tree.body if isinstance(row, ast.Assign)]
