"""Those rules of LANGUAGE.md that can be read off the text of the package.

Each check yields complaints, strings that begin with the number of the rule.
"""

import ast
import builtins
import keyword
import pathlib
import re

PACKAGE = pathlib.Path(__file__).resolve().parent.parent / "holdsfast"

LIBRARY = {
    "heapq": {"heappush", "heappop", "heapify", "heapreplace", "heappushpop"},
    "math": {"gcd", "lcm", "isqrt", "comb", "perm", "factorial"},
}
# A test that runs examples may leave its last result among the builtins, as "_".
BUILTIN_NAMES = {name for name in dir(builtins) if name != "_"}
BUILTINS = set(
    "len range enumerate zip min max sum abs sorted reversed int str bool bytes list tuple dict set frozenset "
    "isinstance ord repr any all divmod iter next map super property staticmethod classmethod Exception ValueError "
    "TypeError KeyError IndexError LookupError ZeroDivisionError ArithmeticError OverflowError RuntimeError "
    "NotImplementedError AttributeError StopIteration NotImplemented".split())
METHODS = set(
    "append clear copy count endswith extend find get index insert isalnum isalpha isdigit islower isspace isupper "
    "items join keys ljust lower lstrip partition pop remove replace reverse rfind rjust rpartition rsplit rstrip "
    "setdefault split splitlines startswith strip update upper values zfill bit_length title capitalize swapcase "
    "casefold center expandtabs removeprefix removesuffix rindex isascii isdecimal isnumeric istitle isidentifier "
    "isprintable translate add discard sort".split())
DOUBLE = set(
    "init eq repr str len enter exit call iter lt le gt ge ne add sub mul floordiv mod pow and or xor lshift rshift "
    "neg pos invert abs bool contains getitem setitem".split())
# L17: nowhere; not as names of variables and methods; nowhere in a file but in comments and docstrings.
BARRED_EVERYWHERE = set(
    "register mro elements open input law version_info with_traceback add_note format format_map".split())
BARRED_NAMES = set(
    "attrgetter breakpoint builtins compile copyright credits delattr dir eval exec exit gc getattr globals hasattr "
    "help id importlib license locals methodcaller os quit setattr type vars sys".split())
BARRED_WORDS = set(
    "type typing typing_extensions enum Enum IntEnum StrEnum Flag IntFlag Generic Protocol ABC ABCMeta namedtuple "
    "NamedTuple TypedDict TYPE_CHECKING abstractmethod".split())
BARRED_PARTS = ("dataclass", "overload", "contextmanager")
BARRED_STARTS = (
    "_wall", "_pe_", "_dcw_", "_enum_", "_cm_", "_twin_re_", "_lay_", "_law_", "_stub_", "_sre", "_WallAttr")
BARRED_WHOLE = {"_cold", "_tuplegetter", "_outside", "_record", "_written_out", "_member_names"}
BARRED_FILES = {"test", "tests", "testing", "site", "conftest", "sitecustomize", "usercustomize"}
PLAIN_STATEMENTS = (
    ast.Assign, ast.AugAssign, ast.If, ast.While, ast.For, ast.Return, ast.Break, ast.Continue, ast.Pass, ast.Raise,
    ast.Assert, ast.Delete, ast.Nonlocal, ast.Match, ast.With, ast.Expr, ast.Try, ast.FunctionDef, ast.ClassDef,
    ast.ImportFrom)


def sources():
    """Return the dict from the module names of the package to their texts."""
    texts = {}
    for path in sorted(PACKAGE.rglob("*.py")):
        parts = path.relative_to(PACKAGE.parent).with_suffix("").parts
        texts[".".join(parts)] = path.read_text(encoding="utf-8")
    return texts


def folder_complaints(package):
    """L1 and L14: what stands in the folders, and how it is called."""
    paths = [path for path in sorted(package.rglob("*")) if "__pycache__" not in path.parts]
    for path in paths:
        name = path.stem if path.is_file() else path.name
        if path.is_dir() and not (path / "__init__.py").is_file():
            yield f"L14 {path} has no __init__.py"
        if path.is_file() and path.suffix != ".py":
            yield f"L1 {path} is no .py file"
        if path.is_file() and path.with_suffix("").is_dir():
            yield f"L14 {path} has the name of a folder beside it"
        if name in ("__init__", "__main__"):
            continue
        if not re.fullmatch("[a-z][a-z0-9_]*", name) or name in BUILTIN_NAMES:
            yield f"L14 {path} has a name that is not let"
        if name in BARRED_FILES | BARRED_WORDS or name.startswith(("law_", "test_")) or name in LIBRARY:
            yield f"L14 {path} has a barred name"
    if len(paths) > 100:
        yield "L14 there are too many files"


def text_complaints(text):
    """L10 and L14: sizes and characters."""
    if any(not (" " <= character <= "~" or character == "\n") for character in text):
        yield "L14 a character is not let"
    lines = text.split("\n")
    if len(lines) > 400 or any(len(line) > 120 for line in lines):
        yield "L10 a file or a line is too long"
    for node in ast.walk(ast.parse(text)):
        if isinstance(node, ast.FunctionDef) and node.end_lineno - node.lineno >= 40:
            yield f"L10 {node.name} is too long"


def import_complaints(texts, name):
    """L2 and L16: what is imported, from where, and that each name is defined there."""
    tree = ast.parse(texts[name])
    for node in ast.walk(tree):
        if isinstance(node, ast.Import):
            yield "L2 a whole module is imported"
        if not isinstance(node, ast.ImportFrom):
            continue
        if node not in tree.body or node.level or any(alias.asname or alias.name == "*" for alias in node.names):
            yield "L2 an import is not in the plain form"
        for alias in node.names:
            if str(node.module).split(".")[0] != PACKAGE.name:
                if alias.name not in LIBRARY.get(node.module, ()):
                    yield f"L2 {alias.name} is not let"
            elif node.module not in texts or alias.name not in defined_in(texts[node.module]):
                yield f"L16 {alias.name} is not defined in {node.module}"
    others_came = False
    for node in tree.body:
        if others_came and isinstance(node, ast.ImportFrom):
            yield "L2 an import does not stand at the top"
        others_came = others_came or not isinstance(node, (ast.ImportFrom, ast.Expr))


def circle_complaints(texts):
    """L16: no two files import from each other, also through other files."""
    ahead = {name: {node.module for node in ast.walk(ast.parse(text)) if isinstance(node, ast.ImportFrom)}
             for name, text in texts.items()}
    for name in texts:
        seen, fresh = set(), set(ahead[name])
        while fresh:
            seen |= fresh
            fresh = {more for module in fresh for more in ahead.get(module, ())} - seen
        if name in seen:
            yield f"L16 {name} imports itself through other files"


def defined_in(text):
    names = set()
    for node in ast.parse(text).body:
        if isinstance(node, (ast.FunctionDef, ast.ClassDef)):
            names.add(node.name)
        if isinstance(node, ast.Assign):
            names |= {target.id for target in node.targets if isinstance(target, ast.Name)}
    return names


def bound_names(tree):
    """Return all names that a text binds: variables, parameters, functions, classes and imports."""
    names = set()
    for node in ast.walk(tree):
        if isinstance(node, ast.Name) and not isinstance(node.ctx, ast.Load):
            names.add(node.id)
        if isinstance(node, ast.arg):
            names.add(node.arg)
        if isinstance(node, (ast.FunctionDef, ast.ClassDef)):
            names.add(node.name)
        if isinstance(node, ast.ImportFrom):
            names |= {alias.asname or alias.name for alias in node.names}
        if isinstance(node, ast.ExceptHandler) and node.name:
            names.add(node.name)
    return names


def method_names(tree):
    classes = [node for node in ast.walk(tree) if isinstance(node, ast.ClassDef)]
    return {node.name for holder in classes for node in holder.body if isinstance(node, ast.FunctionDef)}


def docstrings(tree):
    holders = [node for node in ast.walk(tree) if isinstance(node, (ast.Module, ast.ClassDef, ast.FunctionDef))]
    return [node.body[0].value for node in holders if ast.get_docstring(node) is not None]


def name_complaints(text):
    """L8, L12, L15 and L17: names that are bound, and words that stand nowhere."""
    tree = ast.parse(text)
    attributes = {node.attr for node in ast.walk(tree) if isinstance(node, ast.Attribute)}
    keywords = {node.arg for node in ast.walk(tree) if isinstance(node, ast.keyword) and node.arg}
    bound, methods = bound_names(tree), method_names(tree)
    for name in bound | attributes | keywords:
        double = name.startswith("__")
        if double and not name.endswith("__"):
            yield f"L12 {name} begins with two underscores"
        if double and name.endswith("__") and name.strip("_") not in DOUBLE | {"name", "class"}:
            yield f"L5 {name} is not let"
        if not double and name != "_" and not re.fullmatch("_?[A-Za-z][A-Za-z0-9_]*", name):
            yield f"L12 {name} is not plain"
        if name.startswith(BARRED_STARTS) or name.rstrip("_0123456789") in BARRED_WHOLE:
            yield f"L12 {name} is barred"
        if name in BARRED_EVERYWHERE or name.startswith(("f_", "tb_", "co_", "gi_", "cr_")):
            yield f"L17 {name} is barred"
    for name in bound - methods:
        if name in BUILTIN_NAMES:
            yield f"L15 {name} is the name of a builtin"
    for name in bound & BARRED_NAMES:
        yield f"L17 {name} is barred as a name"
    told = docstrings(tree)
    words = [node.value for node in ast.walk(tree)
             if isinstance(node, ast.Constant) and isinstance(node.value, str) and node not in told]
    for word in list(bound | attributes | keywords) + words:
        if set(re.findall(r"\w+", word)) & BARRED_WORDS or any(part in word for part in BARRED_PARTS):
            yield f"L17 {word} has a barred word"
    if "_WallAttr" in text or re.search(r"\b_wall\b", text):
        yield "L12 a barred word stands in the text"


def once_complaints(text):
    """L3 and L15: the module level, and that each name there is bound once and by nothing further in."""
    tree = ast.parse(text)
    bound = []
    for at, node in enumerate(tree.body):
        if isinstance(node, (ast.FunctionDef, ast.ClassDef)):
            bound.append(node.name)
        elif isinstance(node, ast.ImportFrom):
            bound.extend(alias.name for alias in node.names)
        elif isinstance(node, ast.Assign) and len(node.targets) == 1 and isinstance(node.targets[0], ast.Name):
            bound.append(node.targets[0].id)
        elif not (at == 0 and isinstance(node, ast.Expr) and isinstance(node.value, ast.Constant)):
            yield f"L3 line {node.lineno} cannot stand at module level"
    if len(bound) != len(set(bound)):
        yield "L15 a name is bound twice"
    taken = {alias.name for node in tree.body if isinstance(node, ast.ImportFrom) for alias in node.names}
    taken |= {node.name for node in tree.body if isinstance(node, ast.ClassDef)}
    for node in tree.body:
        if isinstance(node, (ast.FunctionDef, ast.ClassDef)):
            inner = bound_names(node) - {node.name} - method_names(node)
            for name in inner & taken:
                yield f"L15 {name} is bound again"


def call_complaints(text, own_methods):
    """L8, L22 and L25: which builtins and methods are used, and how."""
    tree = ast.parse(text)
    bound = bound_names(tree)
    for node in ast.walk(tree):
        if isinstance(node, ast.Name) and isinstance(node.ctx, ast.Load):
            if node.id in BUILTIN_NAMES and node.id not in BUILTINS and node.id not in bound:
                yield f"L8 {node.id} is not let"
            if node.id not in BUILTIN_NAMES and node.id not in bound:
                yield f"L8 {node.id} is not known"
        if isinstance(node, ast.Call) and isinstance(node.func, ast.Attribute):
            if node.func.attr not in METHODS | own_methods and not node.func.attr.startswith("__"):
                yield f"L25 {node.func.attr} is not let"
            if node.keywords and node.func.attr in METHODS - own_methods:
                yield f"L25 {node.func.attr} is called with keywords"
        if isinstance(node, ast.Call) and any(isinstance(arg, ast.GeneratorExp) for arg in node.args):
            if isinstance(node.func, ast.Name) and node.func.id in ("any", "all", "min", "max", "sum", "sorted"):
                yield f"L7 {node.func.id} takes a generator expression"


def form_complaints(text):
    """L4 to L7, L13, L20, L21, L24 and L27: forms that do not stand anywhere."""
    tree = ast.parse(text)
    for node in ast.walk(tree):
        if isinstance(node, ast.stmt) and not isinstance(node, PLAIN_STATEMENTS):
            yield f"L6 line {node.lineno} is no plain statement"
        if isinstance(node, ast.FunctionDef):
            names = [decorator.id if isinstance(decorator, ast.Name) else "" for decorator in node.decorator_list]
            if names not in ([], ["property"], ["classmethod"], ["staticmethod"]):
                yield f"L4 {node.name} has a decorator"
            if node.returns or any(arg.annotation for arg in ast.walk(node.args) if isinstance(arg, ast.arg)):
                yield f"L21 {node.name} has annotations"
        if isinstance(node, ast.Compare):
            for sign, side in zip(node.ops, node.comparators):
                if isinstance(sign, (ast.Is, ast.IsNot)):
                    if not (isinstance(side, ast.Constant) and side.value in (None, True, False)):
                        yield f"L20 line {node.lineno} compares by is"
        if isinstance(node, ast.Constant):
            if isinstance(node.value, (float, complex)):
                yield "L7 a float stands in the text"
            if isinstance(node.value, str) and "%" in node.value:
                yield "L27 a string has a character that is not let"
        if isinstance(node, ast.BinOp) and isinstance(node.op, ast.Div):
            yield f"L7 line {node.lineno} divides"
        if isinstance(node, ast.Set):
            yield f"L24 line {node.lineno} has a set literal"


def set_complaints(text):
    """L24: a set stands only in sorted or len, behind in, or is kept under a name."""
    tree = ast.parse(text)
    let = []
    for node in ast.walk(tree):
        if isinstance(node, ast.Call) and isinstance(node.func, ast.Name) and node.func.id in ("sorted", "len"):
            let.extend(node.args)
        if isinstance(node, ast.Compare):
            let.extend(side for side in [node.left] + node.comparators)
        if isinstance(node, ast.Assign) and isinstance(node.targets[0], ast.Name):
            let.append(node.value)
    for node in ast.walk(tree):
        made = isinstance(node, ast.Call) and isinstance(node.func, ast.Name) and node.func.id == "set"
        if (made or isinstance(node, ast.SetComp)) and node not in let:
            yield f"L24 line {node.lineno} has a set where none stands"


def class_complaints(text):
    """L5, L19 and L28: methods with double underscores, and errors that are caught."""
    tree = ast.parse(text)
    for node in ast.walk(tree):
        if isinstance(node, ast.ClassDef):
            for inner in node.body:
                named = inner.name if isinstance(inner, ast.FunctionDef) else ""
                if named in ("__len__", "__str__", "__repr__", "__iter__", "__eq__"):
                    if not isinstance(inner.body[-1], ast.Return):
                        yield f"L28 {named} does not end with a return"
                if named == "__init__" and any(isinstance(part, ast.Return) for part in ast.walk(inner)):
                    yield "L28 __init__ returns"
        if isinstance(node, ast.Raise) and node.exc is not None:
            if not (isinstance(node.exc, ast.Call) and isinstance(node.exc.func, ast.Name)):
                yield f"L19 line {node.lineno} raises what it did not make"
        if isinstance(node, ast.ExceptHandler) and (node.type is None or getattr(node.type, "id", "") in (
                "Exception", "TypeError", "ArithmeticError", "OverflowError", "RuntimeError", "AttributeError")):
            yield f"L19 line {node.lineno} catches too much"


def generator_complaints(texts):
    """L23: a generator is iterated at once, and no other function has its name."""
    names = []
    for text in texts.values():
        for node in ast.walk(ast.parse(text)):
            if isinstance(node, ast.FunctionDef):
                inner = [part for part in ast.walk(node) if isinstance(part, (ast.Yield, ast.YieldFrom))]
                names.append((node.name, bool(inner)))
    for name, yields in names:
        if yields and [row[0] for row in names].count(name) > 1:
            yield f"L23 {name} is the name of a generator and of another function"


def all_complaints(texts):
    """Return the complaints about all files of a package, each behind the name of its module."""
    own = {name for text in texts.values() for name in method_names(ast.parse(text))}
    rows = [("package", complaint) for complaint in circle_complaints(texts)]
    rows += [("package", complaint) for complaint in generator_complaints(texts)]
    for name, text in texts.items():
        checks = (text_complaints(text), import_complaints(texts, name), name_complaints(text), once_complaints(text),
                  call_complaints(text, own), form_complaints(text), set_complaints(text), class_complaints(text))
        rows += [(name, complaint) for check in checks for complaint in check]
        rows += [(name, "L12 a keyword is a name") for part in name.split(".") if keyword.iskeyword(part)]
    return rows
