"""Checks of the rules of the language that a few lines can see, over one file or over all files.

Each check yields texts (file, line, rule, what), one for each place that breaks a rule."""

import ast
import builtins
import keyword
import re

PACKAGE = "vectorwidths"
LONGEST_FUNCTION = 40
LONGEST_FILE = 399
LONGEST_LINE = 120

ALLOWED_BUILTINS = set(
    "len range enumerate zip min max sum abs sorted reversed int str bool bytes list tuple dict set isinstance ord "
    "repr any all divmod iter next Exception ValueError TypeError KeyError IndexError LookupError ZeroDivisionError "
    "ArithmeticError OverflowError RuntimeError NotImplementedError AttributeError StopIteration NotImplemented "
    "property staticmethod classmethod super".split())
BUILTIN_METHODS = set(
    "append clear copy count endswith extend find get index insert isalnum isalpha isdigit islower isspace isupper "
    "items join keys ljust lower lstrip partition pop remove replace reverse rfind rjust rpartition rsplit rstrip "
    "setdefault split splitlines startswith strip update upper values zfill bit_length add discard title capitalize "
    "swapcase casefold center expandtabs removeprefix removesuffix rindex isascii isdecimal isnumeric istitle "
    "isidentifier isprintable".split())
ALLOWED_DUNDERS = set(
    "__init__ __eq__ __repr__ __str__ __len__ __enter__ __exit__ __call__ __iter__ __lt__ __le__ __gt__ __ge__ "
    "__ne__ __add__ __sub__ __mul__ __floordiv__ __mod__ __pow__ __and__ __or__ __xor__ __lshift__ __rshift__ "
    "__radd__ __rsub__ __rmul__ __rfloordiv__ __rmod__ __rand__ __ror__ __rxor__ __rlshift__ __rrshift__ __iadd__ "
    "__isub__ __imul__ __ifloordiv__ __imod__ __ipow__ __iand__ __ior__ __ixor__ __ilshift__ __irshift__ __neg__ "
    "__pos__ __invert__ __abs__ __bool__ __contains__ __getitem__ __setitem__".split())
OPERATORS = ALLOWED_DUNDERS - set("__init__ __eq__ __repr__ __str__ __len__ __enter__ __exit__ __call__ __iter__".split())
NOWHERE_NAMES = set("register mro elements open input law version_info with_traceback add_note".split())
FRAME_NAMES = re.compile(r"(f|tb|co|gi|cr|ag)_(back|builtins|code|globals|lasti|lineno|locals|trace|frame|next|names)")
BARRED_FILES = re.compile(r"law_.*|tests?|testing|test_.*|site|conftest|sitecustomize|usercustomize")
NO_VARIABLES = set(
    "attrgetter breakpoint builtins compile copyright credits delattr dir eval exec exit gc getattr globals hasattr "
    "help id importlib license locals methodcaller os quit setattr super type vars sys __name__".split())
NO_WORDS = set(
    "type typing typing_extensions enum Enum IntEnum StrEnum Flag IntFlag Generic Protocol ABC ABCMeta namedtuple "
    "NamedTuple TypedDict TYPE_CHECKING abstractmethod".split())
NO_PARTS_OF_WORDS = ("dataclass", "overload", "contextmanager")
OWN_ATTRIBUTES_BARRED = set(
    "items keys values pop update append clear extend insert remove reverse setdefault sort args encode decode hex "
    "fromhex format format_map mro".split())
ALLOWED_NODES = (
    ast.Module, ast.FunctionDef, ast.ClassDef, ast.Return, ast.Delete, ast.Assign, ast.AugAssign, ast.For, ast.While,
    ast.If, ast.Raise, ast.Try, ast.Assert, ast.ImportFrom, ast.Nonlocal, ast.Expr, ast.Pass, ast.Break,
    ast.Continue, ast.BoolOp, ast.BinOp, ast.UnaryOp, ast.Lambda, ast.IfExp, ast.Dict, ast.Set, ast.ListComp,
    ast.SetComp, ast.DictComp, ast.GeneratorExp, ast.Yield, ast.YieldFrom, ast.Compare, ast.Call, ast.FormattedValue,
    ast.JoinedStr, ast.Constant, ast.Attribute, ast.Subscript, ast.Starred, ast.Name, ast.List, ast.Tuple, ast.Slice,
    ast.Load, ast.Store, ast.Del, ast.boolop, ast.operator, ast.unaryop, ast.cmpop, ast.comprehension,
    ast.ExceptHandler, ast.arguments, ast.arg, ast.keyword, ast.alias, ast.NamedExpr)
BARRED_OPERATORS = (ast.Div, ast.MatMult)
NOTHING = type(None)
# The shell of Python puts the last result there.
BUILTIN_NAMES = set(dir(builtins)) - {"_"}


def told(tree_or_node, rule, what):
    """A finding, by the line of a node."""
    return (getattr(tree_or_node, "lineno", 0), rule, what)


def text_findings(text):
    """Findings in the characters, lines and words of a file."""
    rows = text.split("\n")
    if len(rows) > LONGEST_FILE:
        yield (len(rows), "L10", "a file of too many lines")
    for number, row in enumerate(rows, 1):
        if len(row) > LONGEST_LINE:
            yield (number, "L10", "a line that is too long")
        if not all(" " <= sign <= "~" for sign in row):
            yield (number, "L14", "a character that is not allowed")
        for word in re.findall(r"[A-Za-z0-9_]+", row):
            barred = word in NO_WORDS or any(part in word for part in NO_PARTS_OF_WORDS)
            if barred or FRAME_NAMES.fullmatch(word):
                yield (number, "L17", f"the word {word}")


def bound_names(tree):
    """All nodes that bind a name, with the name."""
    for node in ast.walk(tree):
        if isinstance(node, ast.Name) and not isinstance(node.ctx, ast.Load):
            yield node, node.id
        elif isinstance(node, ast.arg):
            yield node, node.arg
        elif isinstance(node, ast.ExceptHandler) and node.name:
            yield node, node.name


def defined_names(tree):
    """All functions, classes and methods, with their names."""
    for node in ast.walk(tree):
        if isinstance(node, (ast.FunctionDef, ast.ClassDef)):
            yield node, node.name


def name_findings(tree):
    """Findings in the names that a file binds or uses."""
    for node, name in [*bound_names(tree), *defined_names(tree)]:
        dunder = name.startswith("__") and name.endswith("__")
        if name.startswith("_") and not (dunder and name in ALLOWED_DUNDERS):
            yield told(node, "L12", f"the name {name}")
        if not re.fullmatch(r"[A-Za-z0-9_]+", name) or keyword.iskeyword(name):
            yield told(node, "L12", f"the name {name}")
        if name in NOWHERE_NAMES or name in NO_VARIABLES:
            yield told(node, "L17", f"the name {name}")
    method_nodes = {id(one) for node in ast.walk(tree) if isinstance(node, ast.ClassDef) for one in node.body}
    for node, name in [*bound_names(tree), *defined_names(tree)]:
        if name in BUILTIN_NAMES and id(node) not in method_nodes:
            yield told(node, "L15", f"{name} is the name of a builtin")
    for node in ast.walk(tree):
        if isinstance(node, ast.Attribute):
            if node.attr.startswith("_") and node.attr != "__init__":
                yield told(node, "L12", f"the attribute {node.attr}")
            if node.attr in NOWHERE_NAMES:
                yield told(node, "L17", f"the attribute {node.attr}")
            if isinstance(node.ctx, ast.Store) and node.attr in OWN_ATTRIBUTES_BARRED:
                yield told(node, "L26", f"the attribute {node.attr}")
        if isinstance(node, ast.keyword) and node.arg in NOWHERE_NAMES:
            yield told(node, "L17", f"the keyword {node.arg}")


def shadow_findings(tree):
    """Parameters, local variables and nested functions with the name of a class or an import of the file."""
    taken = {one.asname or one.name for node in tree.body if isinstance(node, ast.ImportFrom) for one in node.names}
    taken |= {node.name for node in tree.body if isinstance(node, ast.ClassDef)}
    for node, name in bound_names(tree):
        if name in taken:
            yield told(node, "L15", f"{name} is bound twice")
    top = [node.name for node in tree.body if isinstance(node, (ast.FunctionDef, ast.ClassDef))] + list(
        one.id for node in tree.body if isinstance(node, ast.Assign) for one in node.targets) + [
        one.asname or one.name for node in tree.body if isinstance(node, ast.ImportFrom) for one in node.names]
    for name in {name for name in top if top.count(name) > 1}:
        yield (0, "L15", f"{name} is bound twice at module level")


def node_findings(tree):
    """Findings in the sorts of statements and expressions."""
    for node in ast.walk(tree):
        if not isinstance(node, ALLOWED_NODES) or isinstance(node, BARRED_OPERATORS):
            yield told(node, "L6", f"{node.__class__.__name__} is not used")
        if isinstance(node, ast.FunctionDef):
            first = min([node.lineno] + [one.lineno for one in node.decorator_list])
            if node.end_lineno - first + 1 > LONGEST_FUNCTION:
                yield told(node, "L10", f"{node.name} has too many lines")
            if node.args.posonlyargs:
                yield told(node, "L4", "a / among the parameters")
        if isinstance(node, ast.Constant):
            if isinstance(node.value, (float, complex, bytes)) or node.value is Ellipsis:
                yield told(node, "L7", "a value that is not used")
            if isinstance(node.value, str) and "%" in node.value:
                yield told(node, "L27", "a per cent sign in a string")
        if isinstance(node, ast.BinOp) and isinstance(node.op, ast.Pow):
            if not isinstance(node.right, ast.Constant):
                yield told(node, "L27", "a power that is not literal")
        if isinstance(node, ast.Compare):
            for sign, right in zip(node.ops, node.comparators):
                if isinstance(sign, (ast.Is, ast.IsNot)):
                    if not (isinstance(right, ast.Constant) and isinstance(right.value, (bool, NOTHING))):
                        yield told(node, "L20", "is")


def call_findings(tree, own_methods):
    """Findings in calls: builtins and methods that are not used, and generator expressions."""
    module_names = {name for node, name in [*bound_names(tree), *defined_names(tree)]}
    module_names |= {one.name for node in tree.body if isinstance(node, ast.ImportFrom) for one in node.names}
    for node in ast.walk(tree):
        if isinstance(node, ast.Name) and node.id not in module_names and node.id not in ALLOWED_BUILTINS:
            yield told(node, "L8", f"the name {node.id}")
        if isinstance(node, ast.Call):
            if isinstance(node.func, ast.Attribute):
                name = node.func.attr
                if name not in own_methods and name not in BUILTIN_METHODS and name != "__init__":
                    yield told(node, "L25", f"the method {name}")
                if name == "sort":
                    yield told(node, "L25", "sort in a package with __eq__")
            name = node.func.id if isinstance(node.func, ast.Name) else ""
            if name in ("any", "all", "sum", "min", "max", "sorted"):
                if any(isinstance(one, ast.GeneratorExp) for one in node.args):
                    yield told(node, "L5", f"{name} of a generator expression")


def class_findings(tree):
    """Findings in classes: decorators, iteration, bases, methods that are defined twice."""
    for node in ast.walk(tree):
        if not isinstance(node, ast.ClassDef):
            continue
        if node.decorator_list:
            yield told(node, "L5", "a decorator over a class")
        methods = [
            one for one in node.body if isinstance(one, ast.FunctionDef)
            and not any(isinstance(mark, ast.Attribute) for mark in one.decorator_list)]
        names = [one.name for one in methods]
        for one in methods:
            if names.count(one.name) > 1:
                yield told(one, "L18", f"{one.name} is defined twice")
            if one.name in OPERATORS and one.args.defaults + one.args.kwonlyargs:
                yield told(one, "L5", f"parameters of {one.name}")
        if "__getitem__" in names and "__iter__" not in names:
            yield told(node, "L5", f"{node.name} has no __iter__")


def import_findings(name, tree, definitions):
    """Findings in imports: only of the package, at the top, from the file that defines the name."""
    seen_other = False
    for node in tree.body:
        if not isinstance(node, ast.ImportFrom):
            seen_other = seen_other or not (isinstance(node, ast.Expr) and isinstance(node.value, ast.Constant))
            continue
        if seen_other:
            yield told(node, "L2", "an import that is not at the top")
        parts = (node.module or "").split(".")
        if node.level or len(parts) != 2 or parts[0] != PACKAGE:
            yield told(node, "L2", "an import from outside of the package")
            continue
        for one in node.names:
            if one.name not in definitions.get(parts[1], ()):
                yield told(node, "L16", f"{one.name} is not defined in {parts[1]}")
    for node in ast.walk(tree):
        if isinstance(node, ast.Import) or isinstance(node, ast.ImportFrom) and node not in tree.body:
            yield told(node, "L2", "an import of another form, or within a function")


def top_findings(tree):
    """Findings at module level: docstring, imports, functions, classes, and plain values."""
    for at, node in enumerate(tree.body):
        docstring = at == 0 and isinstance(node, ast.Expr) and isinstance(node.value, ast.Constant)
        if isinstance(node, ast.Assign):
            if len(node.targets) != 1 or not isinstance(node.targets[0], ast.Name):
                yield told(node, "L3", "an assignment of several names")
        elif not docstring and not isinstance(node, (ast.ImportFrom, ast.FunctionDef, ast.ClassDef)):
            yield told(node, "L3", "a statement at module level")


def class_names(trees):
    """The names of all methods, and those of all attributes that are assigned, of all classes."""
    methods, attributes = set(), set()
    for tree in trees.values():
        for node in ast.walk(tree):
            if isinstance(node, ast.ClassDef):
                methods |= {one.name for one in node.body if isinstance(one, ast.FunctionDef)}
            if isinstance(node, ast.Attribute) and isinstance(node.ctx, ast.Store):
                attributes.add(node.attr)
    return methods, attributes


def has_setter(trees, name):
    """Whether a property of this name can be assigned."""
    return any(
        isinstance(node, ast.FunctionDef) and node.name == name and any(
            isinstance(mark, ast.Attribute) and mark.attr == "setter" for mark in node.decorator_list)
        for tree in trees.values() for node in ast.walk(tree))


def imports_of(tree):
    """The modules of the package that a file imports from."""
    return {node.module.split(".")[-1] for node in tree.body if isinstance(node, ast.ImportFrom) and node.module}


def circle_findings(trees):
    """Files that import from each other, directly or through others."""
    left = {name: imports_of(tree) for name, tree in trees.items()}
    while True:
        done = [name for name in left if not left[name] & set(left)]
        if not done:
            break
        for name in done:
            del left[name]
    for name in sorted(left):
        yield (name, 0, "L16", "imports in a circle")


def findings(files):
    """All findings in a dict from the names of files, without .py, to their texts."""
    trees = {name: ast.parse(text) for name, text in files.items()}
    definitions = {
        name: {one.name for one in tree.body if isinstance(one, (ast.FunctionDef, ast.ClassDef))}
        | {mark.id for one in tree.body if isinstance(one, ast.Assign) for mark in one.targets}
        for name, tree in trees.items()}
    methods, attributes = class_names(trees)
    for both in sorted(methods & attributes):
        if not has_setter(trees, both):
            yield ("", 0, "L18", f"{both} is a method and an attribute")
    yield from circle_findings(trees)
    for name in files:
        if BARRED_FILES.fullmatch(name) or name in NO_WORDS or name in BUILTIN_NAMES:
            yield (name, 0, "L14", "the name of a file")
    for name, tree in trees.items():
        for found in (
                *text_findings(files[name]), *name_findings(tree), *shadow_findings(tree), *node_findings(tree),
                *call_findings(tree, methods), *class_findings(tree), *import_findings(name, tree, definitions),
                *top_findings(tree)):
            yield (name, *found)
