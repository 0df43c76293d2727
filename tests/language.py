"""What can be seen of the rules of shared/LANGUAGE.md in a file's text and syntax.

It tells (rule, line) for each breach. It does not see all: what hangs on a value's kind is left out.
"""

import ast
import builtins
import re

OWN_NAMES = set(
    "len range enumerate zip min max sum abs sorted reversed int str bool list tuple dict set frozenset isinstance"
    " ord repr any all divmod Exception ValueError TypeError KeyError IndexError LookupError ZeroDivisionError"
    " ArithmeticError OverflowError RuntimeError NotImplementedError AttributeError StopIteration".split()
)
OWN_METHODS = set(
    "append clear copy count endswith extend find get index insert isalnum isalpha isdigit islower isspace isupper"
    " items join keys ljust lower lstrip partition pop remove replace reverse rfind rjust rpartition rsplit rstrip"
    " setdefault split splitlines startswith strip update upper values zfill bit_length".split()
)
PYTHONS_METHODS = set().union(*(dir(kind) for kind in (str, int, list, dict, set, tuple, bytes, bytearray)))
VALUES_FREE = set("count index title find get join lower upper split strip copy add".split())
DUNDERS = {"__init__", "__eq__", "__repr__", "__str__", "__len__"}
NOWHERE = re.compile(
    r"\b(type|typing|typing_extensions|enum|Enum|IntEnum|StrEnum|Flag|IntFlag|Generic|Protocol|ABC|ABCMeta"
    r"|namedtuple|NamedTuple|TypedDict|TYPE_CHECKING|abstractmethod)\b|dataclass|overload|contextmanager"
)
NEVER_NAMED = set("register mro elements open input version_info with_traceback add_note format format_map".split())
WALKED = {"zip", "enumerate", "reversed", "range"}
WALKERS = set("list tuple dict sorted sum any all enumerate zip min max".split())
CHANGES = set("append clear extend insert pop remove reverse setdefault update".split())
KINDS = set("int str bool list tuple dict".split())
KEYS = set("len int str abs sum min max tuple".split())
KEYWORDS = {
    "sorted": {"key", "reverse"}, "min": {"key", "default"}, "max": {"key", "default"}, "sum": {"start"},
    "enumerate": {"start"}, "zip": {"strict"},
}
BAD_FILES = set("test tests testing site conftest sitecustomize usercustomize".split()) | set(dir(builtins))
STATEMENTS = (
    ast.FunctionDef, ast.ClassDef, ast.Assign, ast.AugAssign, ast.If, ast.While, ast.For, ast.Return, ast.Break,
    ast.Continue, ast.Pass, ast.Raise, ast.Try, ast.Expr, ast.ImportFrom,
)
EXPRESSIONS = (
    ast.Constant, ast.List, ast.Tuple, ast.Dict, ast.Set, ast.BinOp, ast.UnaryOp, ast.BoolOp, ast.Compare, ast.IfExp,
    ast.Call, ast.Attribute, ast.Subscript, ast.Slice, ast.ListComp, ast.JoinedStr, ast.FormattedValue, ast.Name,
    ast.Lambda,
)


def text_breaches(text):
    for line, row in enumerate(text.split("\n"), start=1):
        if re.search(r"[^ -~]", row):
            yield "L14", line
        if len(row) > 120:
            yield "L10", line
        if NOWHERE.search(row):
            yield "L17", line
        if re.search(r"\\[^nt\\'\"]", row.replace("\\\\", "")):
            yield "L27", line
    if text.count("\n") > 400:
        yield "L10", 400


def top_breaches(tree, package):
    bound = []
    for index, node in enumerate(tree.body):
        if isinstance(node, ast.ImportFrom):
            if node.level or not node.module.startswith(package + ".") or node.names[0].name == "*":
                yield "L2", node.lineno
            bound.extend(part.asname or part.name for part in node.names)
        elif isinstance(node, (ast.FunctionDef, ast.ClassDef)):
            bound.append(node.name)
        elif isinstance(node, ast.Assign) and isinstance(node.targets[0], ast.Name):
            bound.append(node.targets[0].id)
            if any(isinstance(part, (ast.Call, ast.ListComp, ast.Lambda, ast.Set)) for part in ast.walk(node.value)):
                yield "L3", node.lineno
        elif not (index == 0 and ast.get_docstring(tree) is not None):
            yield "L3", node.lineno
    if len(set(bound)) != len(bound):
        yield "L15", 1


def def_breaches(node, names):
    spec = node.args
    if spec.vararg or spec.kwarg or spec.kwonlyargs or spec.posonlyargs:
        yield "L4", node.lineno
    if isinstance(node, ast.Lambda):
        return
    if node.decorator_list:
        yield "L4", node.lineno
    if node.returns or any(part.annotation for part in spec.args):
        yield "L21", node.lineno
    if node.end_lineno - node.lineno + 1 > 40:
        yield "L10", node.lineno
    inner = {part.arg for part in spec.args}
    inner |= {part.id for part in ast.walk(node) if isinstance(part, ast.Name) and isinstance(part.ctx, ast.Store)}
    if inner & (names | set(dir(builtins))):
        yield "L15", node.lineno


def class_breaches(node):
    if node.decorator_list or len(node.bases) > 1 or node.keywords:
        yield "L5", node.lineno
    methods = []
    for part in node.body:
        if isinstance(part, ast.FunctionDef):
            methods.append(part.name)
            if part.name.startswith("__") and part.name not in DUNDERS:
                yield "L5", part.lineno
            if part.name in PYTHONS_METHODS - OWN_METHODS - DUNDERS - {"add", "discard"}:
                yield "L26", part.lineno
        elif not isinstance(part, ast.Pass):
            yield "L5", part.lineno
    if len(set(methods)) != len(methods):
        yield "L18", node.lineno


def statement_breaches(node):
    if isinstance(node, ast.stmt) and not isinstance(node, STATEMENTS):
        yield "L6", node.lineno
    if isinstance(node, (ast.For, ast.While)) and node.orelse:
        yield "L6", node.lineno
    if isinstance(node, ast.Assign) and (len(node.targets) != 1 or isinstance(node.targets[0], (ast.Tuple, ast.List))):
        yield "L6", node.lineno
    if isinstance(node, ast.Expr) and not isinstance(node.value, ast.Call) and node.lineno > 1:
        yield "L6", node.lineno
    if isinstance(node, ast.Try) and node.finalbody:
        yield "L6", node.lineno
    if isinstance(node, ast.ExceptHandler):
        if node.type is None or ast.unparse(node.type) in ("Exception", "TypeError"):
            yield "L19", node.lineno
    if isinstance(node, ast.Raise) and not isinstance(node.exc, ast.Call):
        yield "L19", node.lineno


def expression_breaches(node):
    if isinstance(node, ast.expr) and not isinstance(node, EXPRESSIONS):
        yield "L7", node.lineno
    if isinstance(node, ast.Constant) and isinstance(node.value, (float, complex, bytes)):
        yield "L7", node.lineno
    if isinstance(node, ast.Constant) and isinstance(node.value, str) and "%" in node.value:
        yield "L27", node.lineno
    if isinstance(node, ast.ListComp):
        if len(node.generators) != 1 or len(node.generators[0].ifs) > 1:
            yield "L7", node.lineno
    if isinstance(node, (ast.BinOp, ast.AugAssign)) and isinstance(node.op, (ast.Div, ast.MatMult)):
        yield "L7", node.lineno
    if isinstance(node, ast.BinOp) and isinstance(node.op, ast.Pow) and not isinstance(node.right, ast.Constant):
        yield "L27", node.lineno
    if isinstance(node, ast.Compare):
        sides = [node.left] + node.comparators
        for index, sign in enumerate(node.ops):
            plain = [isinstance(part, ast.Constant) for part in sides[index:index + 2]]
            if isinstance(sign, (ast.Is, ast.IsNot)) and not any(plain):
                yield "L20", node.lineno


def name_breaches(node, names, locals_of):
    if isinstance(node, ast.Name):
        if node.id.startswith("_") or node.id in NEVER_NAMED:
            yield "L12", node.lineno
        if node.id not in names | locals_of | OWN_NAMES:
            yield "L8", node.lineno
    if isinstance(node, ast.Attribute):
        if node.attr.startswith("_") and node.attr != "__init__":
            yield "L12", node.lineno
        if node.attr in NEVER_NAMED:
            yield "L17", node.lineno
        if isinstance(node.ctx, ast.Store) and node.attr in PYTHONS_METHODS - VALUES_FREE:
            yield "L26", node.lineno
        if isinstance(node.ctx, ast.Load) and node.attr in PYTHONS_METHODS - OWN_METHODS - {"__init__", "add"}:
            yield "L25", node.lineno


def called(node):
    if not isinstance(node, ast.Call):
        return None
    return node.func.id if isinstance(node.func, ast.Name) else node.func.attr


def call_breaches(node, above):
    word = called(node)
    if word is None:
        return
    if isinstance(node.func, ast.Name) and word in WALKED or word in ("items", "keys", "values"):
        walked = isinstance(above, (ast.For, ast.comprehension)) and above.iter is node
        if not walked and called(above) not in WALKERS | {"join"}:
            yield "L23", node.lineno
    if isinstance(node.func, ast.Name) and word in ("set", "frozenset"):
        if called(above) not in ("sorted", "len") and not isinstance(above, (ast.Compare, ast.BinOp)):
            yield "L24", node.lineno
    if word in OWN_NAMES and isinstance(node.func, ast.Name):
        for keyword in node.keywords:
            if keyword.arg not in KEYWORDS.get(word, ()):
                yield "L22", node.lineno
    elif isinstance(node.func, ast.Attribute) and word in OWN_METHODS and node.keywords:
        yield "L22", node.lineno


def kept_breaches(node, above, classes):
    """Python's own functions and methods, and classes, that stand as values."""
    if isinstance(node, ast.Attribute) and isinstance(node.ctx, ast.Load) and node.attr in OWN_METHODS - VALUES_FREE:
        if not (isinstance(above, ast.Call) and above.func is node):
            yield "L25", node.lineno
    if not isinstance(node, ast.Name) or not isinstance(node.ctx, ast.Load):
        return
    if isinstance(above, ast.Call) and (above.func is node or called(above) == "isinstance"):
        return
    if node.id in classes | {"ValueError", "Exception"}:
        if not isinstance(above, (ast.ClassDef, ast.ExceptHandler)) and not is_base(node, above):
            yield "L18", node.lineno
    elif node.id in OWN_NAMES and node.id[0].islower():
        as_key = isinstance(above, ast.keyword) and above.arg == "key" and node.id in KEYS
        in_kinds = isinstance(above, ast.Tuple) and node.id in KINDS
        if not as_key and not in_kinds:
            yield "L22", node.lineno


def is_base(node, above):
    return isinstance(above, ast.Attribute) and above.attr == "__init__" and above.value is node


def walked_names(node):
    """The names that a loop walks, itself or through enumerate and its like."""
    if isinstance(node, ast.Name):
        return {node.id}
    if called(node) in WALKED and isinstance(node.func, ast.Name):
        return set().union(set(), *(walked_names(part) for part in node.args))
    if called(node) in ("items", "keys", "values"):
        return walked_names(node.func.value)
    return set()


def loop_breaches(node):
    if not isinstance(node, ast.For):
        return
    names = walked_names(node.iter)
    for part in ast.walk(ast.Module(node.body, [])):
        target = None
        if isinstance(part, ast.Subscript) and isinstance(part.ctx, ast.Store):
            target = part.value
        elif isinstance(part, ast.Call) and isinstance(part.func, ast.Attribute) and part.func.attr in CHANGES:
            target = part.func.value
        if isinstance(target, ast.Name) and target.id in names:
            yield "L23", part.lineno


def top_names(tree):
    """The names of a file's top: all of them, and those of its classes and imports alone."""
    every, strict = set(), set()
    for node in tree.body:
        if isinstance(node, ast.ImportFrom):
            strict |= {part.asname or part.name for part in node.names}
        elif isinstance(node, ast.ClassDef):
            strict.add(node.name)
        elif isinstance(node, ast.FunctionDef):
            every.add(node.name)
        elif isinstance(node, ast.Assign):
            every |= {part.id for part in node.targets if isinstance(part, ast.Name)}
    return every | strict, strict


def breaches(text, package):
    tree = ast.parse(text)
    every, strict = top_names(tree)
    classes = {node.name for node in tree.body if isinstance(node, ast.ClassDef)}
    found = list(text_breaches(text)) + list(top_breaches(tree, package))
    bound = {part.arg for part in ast.walk(tree) if isinstance(part, ast.arg)}
    bound |= {part.id for part in ast.walk(tree) if isinstance(part, ast.Name) and isinstance(part.ctx, ast.Store)}
    bound |= {part.name for part in ast.walk(tree) if isinstance(part, (ast.FunctionDef, ast.ExceptHandler))}
    for above in ast.walk(tree):
        for node in ast.iter_child_nodes(above):
            found.extend(statement_breaches(node))
            found.extend(expression_breaches(node))
            found.extend(name_breaches(node, every, bound))
            found.extend(call_breaches(node, above))
            found.extend(kept_breaches(node, above, classes))
            found.extend(loop_breaches(node))
            if isinstance(node, (ast.FunctionDef, ast.Lambda)):
                found.extend(def_breaches(node, strict))
            if isinstance(node, ast.ClassDef):
                found.extend(class_breaches(node))
                if not isinstance(above, ast.Module):
                    found.append(("L15", node.lineno))
    return sorted(set(found), key=str)


def drawn_from(text):
    return {node.module for node in ast.walk(ast.parse(text)) if isinstance(node, ast.ImportFrom)}


def methods_and_values(text):
    """The names of all methods of a file's classes, and of all values that its objects are given."""
    methods, values = set(), set()
    for node in ast.walk(ast.parse(text)):
        if isinstance(node, ast.ClassDef):
            methods |= {part.name for part in node.body if isinstance(part, ast.FunctionDef)}
        if isinstance(node, ast.Attribute) and isinstance(node.ctx, ast.Store):
            values.add(node.attr)
    return methods, values
