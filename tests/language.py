"""A check of the package's text against a part of LANGUAGE.md: faults(files) lists what goes against it.

Not looked at, or only in part: L13, L15 (what is kept in a list or dict of a file's top), L18 (classes as values),
L19, L22, L24 (walked sets), L26, L28. These are left to the reader.
"""

import ast
import builtins
import re

OWN_NAMES = set("""len range enumerate zip min max sum abs sorted reversed int str bool list tuple dict set frozenset
isinstance ord repr any all divmod Exception ValueError TypeError KeyError IndexError LookupError ZeroDivisionError
ArithmeticError OverflowError RuntimeError NotImplementedError AttributeError StopIteration""".split())
METHODS = set("""append clear copy count endswith extend find get index insert isalnum isalpha isdigit islower isspace
isupper items join keys ljust lower lstrip partition pop remove replace reverse rfind rjust rpartition rsplit rstrip
setdefault split splitlines startswith strip update upper values zfill bit_length""".split())
NEVER = set("""register mro elements open input version_info with_traceback add_note format format_map args
encode""".split())
DUNDERS = {"__init__", "__eq__", "__repr__", "__str__", "__len__"}
WORDS = re.compile(r"\b(type|typing|typing_extensions|enum|Enum|IntEnum|StrEnum|Flag|IntFlag|Generic|Protocol|ABC|"
                   r"ABCMeta|namedtuple|NamedTuple|TypedDict|TYPE_CHECKING|abstractmethod)\b|dataclass|overload|"
                   r"contextmanager")
NODES = tuple([getattr(ast, name) for name in """Module FunctionDef ClassDef Return Assign AugAssign For While If Raise
Try ExceptHandler ImportFrom Expr Pass Break Continue BoolOp BinOp UnaryOp Lambda IfExp Dict Set ListComp comprehension
Compare Call JoinedStr FormattedValue Constant Attribute Subscript Name List Tuple Slice arguments arg keyword alias
operator unaryop boolop cmpop expr_context""".split()])
WALKED = {"zip", "enumerate", "reversed", "range"}
WALKERS = {"list", "tuple", "dict", "sorted", "sum", "any", "all", "enumerate", "zip", "min", "max"}


def faults(files):
    """files tells the text of each file of the package by its module's name."""
    trees = {name: ast.parse(text) for name, text in files.items()}
    own = {node.name for tree in trees.values() for node in ast.walk(tree) if isinstance(node, ast.FunctionDef)}
    found = []
    for name, text in files.items():
        for line, what in text_faults(text) + tree_faults(trees[name], own):
            found.append(f"{name}:{line}: {what}")
    return found + import_faults(trees) + field_faults(trees)


def text_faults(text):
    lines = text.split("\n")
    found = [(1, "L10 more than 400 lines")] if len(lines) > 401 else []
    for number, line in enumerate(lines, start=1):
        if len(line) > 120:
            found.append((number, "L10 more than 120 characters"))
        if any([not " " <= sign <= "~" for sign in line]):
            found.append((number, "L14 a sign that is none from the blank to ~"))
        if WORDS.search(line):
            found.append((number, "L17 a word that stands nowhere"))
    return found


def tree_faults(tree, own):
    found = top_faults(tree)
    parents = {child: node for node in ast.walk(tree) for child in ast.iter_child_nodes(node)}
    bound = bound_at_top(tree)
    for node in ast.walk(tree):
        line = getattr(node, "lineno", 0)
        if not isinstance(node, NODES):
            found.append((line, f"L6, L7 {type(node).__name__}"))
        for check in (def_fault, class_fault, statement_fault, value_fault, walk_fault):
            found.extend([(line, what) for what in check(node, parents)])
        found.extend([(line, what) for what in name_fault(node, bound) + method_fault(node, own)])
    return found


def bound_at_top(tree):
    names = []
    for node in tree.body:
        if isinstance(node, ast.ImportFrom):
            names.extend([alias.name for alias in node.names])
        if isinstance(node, (ast.FunctionDef, ast.ClassDef)):
            names.append(node.name)
        if isinstance(node, ast.Assign):
            names.append(ast.unparse(node.targets[0]))
    return names


def top_faults(tree):
    found = []
    bound = bound_at_top(tree)
    for place, node in enumerate(tree.body):
        plain = isinstance(node, (ast.ImportFrom, ast.FunctionDef, ast.ClassDef))
        docstring = place == 0 and isinstance(node, ast.Expr) and isinstance(node.value, ast.Constant)
        value = isinstance(node, ast.Assign) and isinstance(node.targets[0], ast.Name) and not any(
            [isinstance(part, (ast.Call, ast.Lambda, ast.ListComp, ast.Set)) for part in ast.walk(node.value)])
        if not plain and not docstring and not value:
            found.append((node.lineno, "L3 it does not stand at a file's top"))
    found.extend([(1, f"L15 {name} is bound twice") for name in bound if bound.count(name) > 1])
    return found


def def_fault(node, parents):
    found = []
    if isinstance(node, ast.FunctionDef):
        if node.end_lineno - node.lineno >= 40:
            found.append("L10 more than 40 lines")
        if node.decorator_list or node.returns:
            found.append("L4, L21 a decorator or an annotation")
    if isinstance(node, ast.arguments) and (node.vararg or node.kwarg or node.kwonlyargs or node.posonlyargs):
        found.append("L4 a parameter that is not plain")
    if isinstance(node, ast.arg) and node.annotation:
        found.append("L21 an annotation")
    return found


def class_fault(node, parents):
    if not isinstance(node, ast.ClassDef):
        return []
    found = ["L5 a decorator or a keyword"] if node.decorator_list or node.keywords else []
    methods = [part.name for part in node.body if isinstance(part, ast.FunctionDef)]
    if len(node.bases) > 1 or any([not isinstance(base, ast.Name) for base in node.bases]):
        found.append("L5 more than one base")
    if any([not isinstance(part, (ast.FunctionDef, ast.Pass)) for part in node.body]):
        found.append("L5 a value in the class body")
    if len(methods) != len(set(methods)):
        found.append("L18 a method twice")
    if not isinstance(parents[node], ast.Module):
        found.append("L15 a class that is not at a file's top")
    return found


def statement_fault(node, parents):
    found = []
    if isinstance(node, ast.Assign) and len(node.targets) != 1:
        found.append("L6 more than one target")
    if isinstance(node, (ast.For, ast.While)) and node.orelse:
        found.append("L6 an else behind a loop")
    if isinstance(node, ast.Try) and node.finalbody:
        found.append("L6 finally")
    if isinstance(node, ast.Expr) and not isinstance(node.value, ast.Call) and parents[node].body[0] is not node:
        found.append("L6 a value by itself")
    if isinstance(node, ast.ExceptHandler):
        names = "" if node.type is None else ast.unparse(node.type)
        if names in ("", "Exception", "TypeError"):
            found.append("L6, L19 a handler without a class, or of Exception or TypeError")
    if isinstance(node, ast.ImportFrom) and not isinstance(parents[node], ast.Module):
        found.append("L2 an import that is not at the top")
    return found


def value_fault(node, parents):
    found = []
    if isinstance(node, (ast.Div, ast.MatMult)):
        found.append("L7 /")
    if isinstance(node, ast.Constant) and isinstance(node.value, (float, complex, bytes)):
        found.append("L7 a float or bytes")
    if isinstance(node, ast.Constant) and isinstance(node.value, str) and chr(37) in node.value:
        found.append("L27 that sign within a text")
    if isinstance(node, ast.ListComp) and (len(node.generators) != 1 or len(node.generators[0].ifs) > 1):
        found.append("L7 a comprehension with more than one for or if")
    if isinstance(node, ast.FormattedValue) and (not isinstance(node.value, ast.Name) or node.format_spec):
        found.append("L7 an f-string with more than a name")
    if isinstance(node, ast.BinOp) and isinstance(node.op, ast.Pow) and not isinstance(node.right, ast.Constant):
        found.append("L27 an exponent that is not written")
    if isinstance(node, ast.Compare):
        for operator, value in zip(node.ops, node.comparators):
            if isinstance(operator, (ast.Is, ast.IsNot)) and ast.unparse(value) not in ("None", "True", "False"):
                found.append("L20 is")
    return found


def walk_fault(node, parents):
    if not isinstance(node, ast.Call):
        return []
    called = ast.unparse(node.func)
    above = parents[node]
    joined = isinstance(above, ast.Call) and isinstance(above.func, ast.Attribute) and above.func.attr == "join"
    in_loop = isinstance(above, (ast.For, ast.comprehension)) and above.iter is node
    in_call = isinstance(above, ast.Call) and ast.unparse(above.func) in WALKERS and node in above.args
    if called in WALKED or called.rpartition(".")[2] in ("items", "keys", "values"):
        return [] if in_loop or in_call or joined else ["L23 it is not walked on the spot"]
    in_compare = isinstance(above, (ast.Compare, ast.BinOp))
    in_size = isinstance(above, ast.Call) and ast.unparse(above.func) in ("len", "sorted")
    if called in ("set", "frozenset") and not in_compare and not in_size:
        return ["L24 a set that is kept"]
    return []


def name_fault(node, bound):
    name = None
    if isinstance(node, ast.Name):
        name = node.id
    if isinstance(node, ast.arg):
        name = node.arg
    if isinstance(node, ast.FunctionDef) and node.name not in DUNDERS:
        name = node.name
    if isinstance(node, (ast.ClassDef, ast.ExceptHandler)):
        name = node.name
    if isinstance(node, ast.Attribute) and node.attr not in DUNDERS:
        name = node.attr
    if name is None:
        return []
    found = [] if re.fullmatch("[A-Za-z][A-Za-z0-9_]*", name) else [f"L12 {name}"]
    if name in NEVER:
        found.append(f"L17 {name}")
    is_name = isinstance(node, ast.Name)
    if is_name and isinstance(node.ctx, ast.Load) and hasattr(builtins, name) and name not in OWN_NAMES:
        found.append(f"L8 {name}")
    given = isinstance(node, ast.arg) or is_name and isinstance(node.ctx, ast.Store)
    if given and (hasattr(builtins, name) or name in bound and name.upper() != name):
        found.append(f"L15 {name} has a meaning already")
    return found


def method_fault(node, own):
    if isinstance(node, ast.Call) and isinstance(node.func, ast.Attribute):
        name = node.func.attr
        if name not in METHODS and name not in own:
            return [f"L25 {name}"]
    return []


def import_faults(trees):
    found = []
    drawn = {name: [] for name in trees}
    for name, tree in trees.items():
        for node in tree.body:
            if isinstance(node, ast.ImportFrom):
                source = (node.module or "").partition("twoglass.")[2]
                drawn[name].append(source)
                tops = bound_at_top(trees[source]) if source in trees and not node.level else []
                missing = [alias.name for alias in node.names if alias.name not in tops or alias.asname]
                found.extend([f"{name}: L2, L16 {node.module} does not define {one}" for one in missing])
    for name in trees:
        if name in reached(drawn, name):
            found.append(f"{name}: L16 it draws from itself")
    return found


def reached(drawn, name):
    seen = []
    waiting = list(drawn[name])
    while waiting:
        one = waiting.pop()
        if one not in seen:
            seen.append(one)
            waiting.extend(drawn.get(one, []))
    return seen


def field_faults(trees):
    methods, fields = set(), set()
    for tree in trees.values():
        for node in ast.walk(tree):
            if isinstance(node, ast.ClassDef):
                methods.update([part.name for part in node.body if isinstance(part, ast.FunctionDef)])
            if isinstance(node, ast.Attribute) and isinstance(node.ctx, ast.Store):
                fields.add(node.attr)
    return [f"L18 {name} is a method and a value" for name in sorted(methods & fields)]
