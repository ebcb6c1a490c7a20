"""Finds what breaks the rules of ../shared/LANGUAGE.md, as far as it can be seen file by file without much effort."""

import ast
import builtins
import re

LIBRARY = {
    "heapq": {"heappush", "heappop", "heapify", "heapreplace", "heappushpop"},
    "math": {"gcd", "lcm", "isqrt", "comb", "perm", "factorial"},
    "itertools": {"product", "combinations", "permutations", "chain", "accumulate", "pairwise", "islice",
                  "zip_longest"},
    "collections": {"defaultdict"},
}
BUILTINS = set(
    "len range enumerate zip min max sum abs sorted reversed int str bool bytes list tuple dict set frozenset"
    " isinstance ord repr any all divmod pow getattr hasattr setattr iter next map super property staticmethod"
    " classmethod object Exception ValueError TypeError KeyError IndexError LookupError ZeroDivisionError"
    " ArithmeticError OverflowError RuntimeError NotImplementedError AttributeError StopIteration"
    " NotImplemented".split()
)
CAUGHT = {"KeyError", "ZeroDivisionError", "StopIteration", "ValueError", "LookupError", "IndexError"}
METHODS = set(
    "append clear copy count endswith extend find get index insert isalnum isalpha isdigit islower isspace isupper"
    " items join keys ljust lower lstrip partition pop remove replace reverse rfind rjust rpartition rsplit rstrip"
    " setdefault split splitlines startswith strip update upper values zfill bit_length title capitalize swapcase"
    " casefold center expandtabs removeprefix removesuffix rindex isascii isdecimal isnumeric istitle isidentifier"
    " isprintable translate format sort add discard encode decode hex from_bytes".split()
)
DUNDERS = set(
    "__init__ __eq__ __repr__ __str__ __len__ __enter__ __exit__ __call__ __iter__ __lt__ __le__ __gt__ __ge__"
    " __ne__ __add__ __sub__ __mul__ __floordiv__ __mod__ __pow__ __and__ __or__ __xor__ __lshift__ __rshift__"
    " __neg__ __pos__ __invert__ __abs__ __bool__ __contains__ __getitem__ __setitem__".split()
)
BARRED = set(
    "register mro elements open input law version_info with_traceback add_note attrgetter breakpoint builtins"
    " compile copyright credits delattr dir eval exec exit gc globals help id importlib license locals"
    " methodcaller os quit type vars typing enum Enum namedtuple dataclass _cold chr print float sys".split()
)
# Not sorted, sum, min, max, any and all, which take lists where a class of the package has __eq__.
TAKERS = {"list", "tuple", "dict"}
STATEMENTS = {
    "FunctionDef", "ClassDef", "Return", "Delete", "Assign", "AugAssign", "AnnAssign", "For", "While", "If", "With",
    "Match", "Raise", "Try", "Assert", "ImportFrom", "Nonlocal", "Expr", "Pass", "Break", "Continue",
}


def wrongs_of(source):
    """The list of what breaks a rule in the source of one file, each as the rule and the line."""
    tree = ast.parse(source)
    found = lines_wrong(source) + top_wrong(tree) + names_wrong(tree)
    for node in ast.walk(tree):
        for rule in node_wrong(node):
            found.append((rule, getattr(node, "lineno", 0)))
    return found


def lines_wrong(source):
    found = []
    lines = source.split("\n")
    if len(lines) - 1 > 399:
        found.append(("L10", len(lines)))
    for row, line in enumerate(lines, 1):
        if len(line) > 120:
            found.append(("L10", row))
        if not re.fullmatch("[ -~]*", line):
            found.append(("L14", row))
    return found


def top_wrong(tree):
    """What breaks the rules for the module level: L2, L3, L4 and L15."""
    found = []
    bound = []
    past_imports = False
    for place, node in enumerate(tree.body):
        if isinstance(node, ast.ImportFrom):
            bound += [alias.asname or alias.name for alias in node.names]
            if past_imports or not import_is_right(node):
                found.append(("L2", node.lineno))
            continue
        if is_docstring(node) and place == 0:
            continue
        past_imports = True
        if isinstance(node, (ast.FunctionDef, ast.ClassDef)):
            bound.append(node.name)
            if node.decorator_list:
                found.append(("L4", node.lineno))
        elif isinstance(node, ast.Assign) and len(node.targets) == 1 and isinstance(node.targets[0], ast.Name):
            bound.append(node.targets[0].id)
            if any(isinstance(part, (ast.Call, ast.Set, ast.ListComp)) for part in ast.walk(node.value)):
                found.append(("L3", node.lineno))
        else:
            found.append(("L3", node.lineno))
    return found + [("L15", 0) for name in set(bound) if bound.count(name) > 1]


def import_is_right(node):
    if node.level or any(alias.name == "*" for alias in node.names):
        return False
    if node.module in LIBRARY:
        return all(alias.name in LIBRARY[node.module] and alias.asname is None for alias in node.names)
    return node.module.startswith("boxshift.") or node.module == "__future__"


def is_docstring(node):
    return isinstance(node, ast.Expr) and isinstance(node.value, ast.Constant) and isinstance(node.value.value, str)


def names_wrong(tree):
    """Names that are used and nowhere bound in the file, or bound though they mean something else: L8, L12, L17."""
    bound = {}
    for node in ast.walk(tree):
        if isinstance(node, ast.Name) and not isinstance(node.ctx, ast.Load):
            bound[node.id] = node.lineno
        elif isinstance(node, (ast.FunctionDef, ast.ClassDef)):
            bound[node.name] = node.lineno
        elif isinstance(node, ast.arg):
            bound[node.arg] = node.lineno
        elif isinstance(node, (ast.ImportFrom, ast.Import)):
            bound.update({alias.asname or alias.name: node.lineno for alias in node.names})
        elif isinstance(node, (ast.ExceptHandler, ast.MatchAs, ast.MatchStar)) and node.name:
            bound[node.name] = node.lineno
    found = []
    for name, row in bound.items():
        if name in DUNDERS:
            continue
        if hasattr(builtins, name):
            found.append(("L15", row))
        if name in BARRED:
            found.append(("L17", row))
        if name.startswith("__") or name.startswith("_wall"):
            found.append(("L12", row))
    for node in ast.walk(tree):
        if isinstance(node, ast.Name) and isinstance(node.ctx, ast.Load):
            if node.id not in bound and node.id not in BUILTINS:
                found.append(("L8", node.lineno))
            if node.id == "_":
                found.append(("L12", node.lineno))
    return found


def node_wrong(node):
    """The rules that one node of a tree breaks."""
    rules = []
    if isinstance(node, ast.stmt) and node.__class__.__name__ not in STATEMENTS:
        rules.append("L6")
    if isinstance(node, (ast.FunctionDef, ast.ClassDef)):
        rules += definition_wrong(node)
    if isinstance(node, (ast.Div, ast.MatMult, ast.Await)):
        rules.append("L7")
    if isinstance(node, ast.BinOp) and isinstance(node.op, ast.Pow) and not is_literal(node.right, int):
        rules.append("L27")
    if isinstance(node, ast.Constant):
        rules += constant_wrong(node.value)
    if isinstance(node, ast.Call):
        rules += call_wrong(node)
    if isinstance(node, ast.Compare):
        rules += compare_wrong(node)
    if isinstance(node, ast.ExceptHandler):
        rules += handler_wrong(node)
    if isinstance(node, ast.Attribute) and node.attr.startswith("__") and node.attr not in DUNDERS:
        if node.attr not in ["__class__", "__name__"]:
            rules.append("L8")
    for part in ast.iter_child_nodes(node):
        if isinstance(part, ast.GeneratorExp) and not takes_generator(node):
            rules.append("L7")
    return rules


def definition_wrong(node):
    rules = []
    if isinstance(node, ast.FunctionDef) and node.end_lineno - node.lineno + 1 > 40:
        rules.append("L10")
    for one in node.decorator_list:
        name = one.attr if isinstance(one, ast.Attribute) else getattr(one, "id", None)
        if name not in ["property", "staticmethod", "classmethod", "setter"]:
            rules.append("L4")
    if node.name == "__exit__" and not all(is_simple_row(row) for row in node.body):
        rules.append("L6")
    if isinstance(node, ast.ClassDef):
        names = [part.name for part in node.body if isinstance(part, ast.FunctionDef)]
        for part in node.body:
            if not isinstance(part, (ast.FunctionDef, ast.Assign, ast.Pass)) and not is_docstring(part):
                rules.append("L5")
        rules += ["L5" for name in names if name.startswith("__") and name not in DUNDERS]
        rules += ["L18" for name in set(names) if names.count(name) > 1 and not node.decorator_list]
    return rules


def is_simple_row(node):
    """Whether a row of an __exit__ only assigns attributes and names to attributes and names, or does nothing."""
    if isinstance(node, ast.Assign) and len(node.targets) == 1:
        return is_attribute(node.targets[0]) and is_attribute(node.value)
    return isinstance(node, ast.Pass) or isinstance(node, ast.Return) and node.value is None


def is_attribute(node):
    while isinstance(node, ast.Attribute):
        node = node.value
    return isinstance(node, ast.Name) and node.id not in ["kind", "value", "trace"]


def constant_wrong(value):
    if isinstance(value, (float, complex)) or value is Ellipsis:
        return ["L7"]
    if isinstance(value, str) and ("%" in value or value.startswith("__") and value.endswith("__")):
        return ["L27"]
    return []


def is_literal(node, kind):
    return isinstance(node, ast.Constant) and isinstance(node.value, kind)


def call_wrong(node):
    if isinstance(node.func, ast.Constant):
        return ["L7"]
    if isinstance(node.func, ast.Name) and node.func.id in ["isinstance", "len"] and node.keywords:
        return ["L22"]
    return []


def compare_wrong(node):
    rules = []
    for sign, side in zip(node.ops, node.comparators):
        plain = isinstance(side, ast.Constant) and (side.value is None or isinstance(side.value, bool))
        if isinstance(sign, (ast.Is, ast.IsNot)) and not plain and getattr(side, "id", None) != "self":
            rules.append("L20")
    return rules


def handler_wrong(node):
    if node.type is None:
        return ["L19"]
    names = node.type.elts if isinstance(node.type, ast.Tuple) else [node.type]
    return ["L19" for name in names if hasattr(builtins, name.id) and name.id not in CAUGHT]


def takes_generator(node):
    if not isinstance(node, ast.Call):
        return False
    if isinstance(node.func, ast.Attribute):
        return node.func.attr == "join" and is_literal(node.func.value, str)
    return getattr(node.func, "id", None) in TAKERS


def methods_called(tree):
    """Names and lines of all methods that are called."""
    calls = [node for node in ast.walk(tree) if isinstance(node, ast.Call)]
    return [(node.func.attr, node.lineno) for node in calls if isinstance(node.func, ast.Attribute)]


def methods_defined(tree):
    """Names of all methods that the classes of a file define, those of the classes above included."""
    classes = [node for node in ast.walk(tree) if isinstance(node, ast.ClassDef)]
    return [part.name for node in classes for part in node.body if isinstance(part, ast.FunctionDef)]


def modules_imported(tree):
    return [node.module for node in ast.walk(tree) if isinstance(node, ast.ImportFrom)]
