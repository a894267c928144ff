"""The files of the package against ../shared/LANGUAGE.md, as far as a test can hold them.

The checker knows a part of what the rules allow and reports all else, with the rule that says more.
So a report may also mean that the checker has to learn a further part of the language.
"""

import ast
import builtins
import io
import re
import tokenize
import unittest
import warnings
from pathlib import Path

PACKAGE = "stretchleast"
FOLDER = Path(__file__).resolve().parent.parent / PACKAGE

BUILTINS = set("len range enumerate zip min max sum abs sorted reversed int str bool list tuple dict isinstance ord repr "
               "any all divmod".split())
ERRORS = set("Exception ValueError TypeError KeyError IndexError LookupError ZeroDivisionError ArithmeticError "
             "OverflowError RuntimeError NotImplementedError".split())
KINDS = set("int str bool bytes list tuple dict".split())
LAZY = {"zip", "enumerate", "reversed", "range"}
LAZY_METHODS = {"items", "keys", "values"}
TAKERS = {"list", "tuple", "dict", "sorted", "sum", "any", "all", "enumerate", "zip"}
EXPRESSION_TAKERS = {"list", "tuple", "dict", "sorted", "sum", "min", "max", "any", "all"}
KEYWORDS = {"sorted": {"key", "reverse"}, "min": {"key", "default"}, "max": {"key", "default"}, "sum": {"start"},
            "enumerate": {"start"}, "zip": {"strict"}}
# How many arguments a builtin takes; the checker asks for no more than the package may need.
COUNTS = {"len": (1, 1), "range": (1, 3), "enumerate": (1, 2), "zip": (1, 9), "min": (1, 9), "max": (1, 9),
          "sum": (1, 2), "abs": (1, 1), "sorted": (1, 1), "reversed": (1, 1), "int": (0, 2), "str": (0, 1),
          "bool": (0, 1), "list": (0, 1), "tuple": (0, 1), "dict": (0, 1), "isinstance": (2, 2), "ord": (1, 1),
          "repr": (1, 1), "any": (1, 1), "all": (1, 1), "divmod": (2, 2)}
METHODS = set("append clear copy count endswith extend find get index insert isalnum isalpha isdigit islower isspace "
              "isupper items join keys ljust lower lstrip partition pop remove replace reverse rfind rjust rpartition "
              "rsplit rstrip setdefault split splitlines startswith strip update upper values zfill bit_length".split())
# Of the additional methods those that the package may need; own methods are not called like these.
ADDITIONAL_METHODS = {"isascii", "isdecimal", "removeprefix", "removesuffix"}
MODIFIERS = set("append clear extend insert pop remove reverse setdefault update".split())
FREE_ATTRIBUTES = set("count index title find get join lower upper split strip copy add".split())
NEVER_NAMES = set("register mro elements open input version_info with_traceback add_note format format_map".split())
NEVER_VARIABLES = set("attrgetter breakpoint builtins compile copyright credits delattr dir eval exec exit gc getattr "
                      "globals hasattr help id importlib license locals methodcaller os quit setattr super type vars "
                      "sys".split())
NEVER_WORDS = set("type typing typing_extensions enum Enum IntEnum StrEnum Flag IntFlag Generic Protocol ABC ABCMeta "
                  "namedtuple NamedTuple TypedDict TYPE_CHECKING abstractmethod".split())
NEVER_PARTS = ("dataclass", "overload", "contextmanager")
ALL_BUILTINS = set(dir(builtins))
BUILTIN_VALUES = (str, int, list, dict, set, bytes, tuple)
STATEMENTS = (ast.FunctionDef, ast.ClassDef, ast.Return, ast.Assign, ast.AugAssign, ast.For, ast.While, ast.If,
              ast.Raise, ast.Try, ast.ImportFrom, ast.Expr, ast.Pass, ast.Break, ast.Continue, ast.Delete)
EXPRESSIONS = (ast.BoolOp, ast.BinOp, ast.UnaryOp, ast.IfExp, ast.Dict, ast.List, ast.Tuple, ast.ListComp,
               ast.DictComp, ast.GeneratorExp, ast.Compare, ast.Call, ast.Constant, ast.Attribute, ast.Subscript,
               ast.Slice, ast.Name, ast.JoinedStr, ast.FormattedValue, ast.Starred)
PARTS = (ast.Module, ast.arguments, ast.arg, ast.alias, ast.keyword, ast.comprehension, ast.ExceptHandler,
         ast.expr_context, ast.boolop, ast.unaryop, ast.cmpop, ast.operator)


class Source:
    """One file of the package, read."""

    def __init__(self, name, text):
        self.name = name
        self.module = name[:-3].replace("/", ".")
        self.text = text
        self.tree = ast.parse(text)
        for node in ast.walk(self.tree):
            for child in ast.iter_child_nodes(node):
                child.parent = node
        self.nodes = list(ast.walk(self.tree))
        self.functions = [node for node in self.nodes if isinstance(node, ast.FunctionDef)]
        self.classes = [node for node in self.nodes if isinstance(node, ast.ClassDef)]
        self.calls = [node for node in self.nodes if isinstance(node, ast.Call)]
        self.imports = [node for node in self.tree.body if isinstance(node, ast.ImportFrom)]
        self.imported = [alias.asname or alias.name for node in self.imports for alias in node.names]
        self.defined = [name for node in self.tree.body for name in bound_by(node)]

    def inside(self, kind):
        return [node for node in self.nodes if isinstance(node, kind)]


class Package:
    """All files, and the names that they define for each other."""

    def __init__(self, files):
        self.sources = [Source(name, text) for name, text in sorted(files.items())]
        self.modules = {source.module: source for source in self.sources}
        self.classes = {node.name: node for source in self.sources for node in source.classes}
        self.functions = {node.name: node for source in self.sources for node in source.functions
                          if isinstance(node.parent, ast.Module)}
        self.methods = {node.name for source in self.sources for node in source.functions
                        if isinstance(node.parent, ast.ClassDef)}
        self.tables = {name for source in self.sources for node in source.tree.body
                       if isinstance(node, ast.Assign) and isinstance(node.value, ast.Dict) for name in bound_by(node)}
        self.attributes = {node.attr for source in self.sources for node in source.inside(ast.Attribute)
                           if isinstance(node.ctx, ast.Store)}

    def is_error(self, name):
        seen = set()
        while name in self.classes and name not in seen:
            seen.add(name)
            bases = self.classes[name].bases
            name = bases[0].id if len(bases) == 1 and isinstance(bases[0], ast.Name) else None
        return name in ERRORS


def bound_by(node):
    """The names that a statement at module level binds, but for imports."""
    if isinstance(node, (ast.FunctionDef, ast.ClassDef)):
        return [node.name]
    if isinstance(node, ast.Assign):
        return [target.id for target in node.targets if isinstance(target, ast.Name)]
    return []


def is_docstring(node):
    return (isinstance(node, ast.Expr) and isinstance(node.value, ast.Constant) and isinstance(node.value.value, str)
            and isinstance(node.parent, (ast.Module, ast.ClassDef, ast.FunctionDef)) and node.parent.body[0] == node)


def called_name(node):
    return node.func.id if isinstance(node, ast.Call) and isinstance(node.func, ast.Name) else None


def called_method(node):
    return node.func.attr if isinstance(node, ast.Call) and isinstance(node.func, ast.Attribute) else None


def is_plain(node):
    """Whether an expression is a written value: a number, a text, a truth, None, or a tuple of these."""
    if isinstance(node, ast.UnaryOp):
        return isinstance(node.op, ast.USub) and isinstance(node.operand, ast.Constant) and is_number(node.operand)
    if isinstance(node, ast.Tuple):
        return all(is_plain(item) for item in node.elts)
    return isinstance(node, ast.Constant) and (node.value is None or isinstance(node.value, (int, str)))


def is_number(node):
    return isinstance(node, ast.Constant) and isinstance(node.value, int) and not isinstance(node.value, bool)


def is_table(node, functions):
    """Whether an expression is a dict of written values to such, or to tuples and functions that are known by then."""
    if not isinstance(node, ast.Dict):
        return False
    values = all(is_plain(value) or isinstance(value, ast.Name) and value.id in functions for value in node.values)
    return values and all(key is not None and is_plain(key) for key in node.keys)


def locals_of(function):
    bound = {arg.arg for arg in function.args.args}
    for node in ast.walk(function):
        if isinstance(node, ast.Name) and isinstance(node.ctx, ast.Store):
            bound.add(node.id)
    return bound


def on_a_ring(links):
    """The names from which the links lead back to the name itself."""
    found = []
    for start in links:
        ahead, seen = list(links[start]), set()
        while ahead:
            name = ahead.pop()
            if name not in seen:
                seen.add(name)
                ahead.extend(links.get(name, ()))
        if start in seen:
            found.append(start)
    return found


def check_characters(source, package):
    for at, line in enumerate(source.text.split("\n"), 1):
        if len(line) > 120:
            yield at, "L10 a line of more than 120 characters"
        if any(not " " <= sign <= "~" for sign in line):
            yield at, "L14 a character that is not one from the space to ~"
        for word in re.findall(r"\w+", line):
            if word in NEVER_WORDS or any(part in word for part in NEVER_PARTS):
                yield at, f"L17 the word {word}"
    if source.text.count("\n") > 400:
        yield 1, "L10 a file of more than 400 lines"


def check_strings(source, package):
    for token in tokenize.generate_tokens(io.StringIO(source.text).readline):
        if token.type == tokenize.STRING or tokenize.tok_name[token.type] == "FSTRING_MIDDLE":
            if re.search(r"\\[^nt\\'\"]", re.sub(r"\\\\", "", token.string)):
                yield token.start[0], "L27 an escape other than of a line, a tab, a backslash or a quote"
            if re.match("[a-zA-Z]*", token.string).group() not in ("", "f") and token.type == tokenize.STRING:
                yield token.start[0], "L7 a prefix of a string that the checker does not know"
        if token.type == tokenize.NUMBER and len(token.string) > 900:
            yield token.start[0], "L27 a number of more than 900 digits"
    for node in source.inside(ast.Constant):
        if isinstance(node.value, str) and ("%" in node.value or node.value.endswith(("._", ".__"))):
            yield node.lineno, "L27 a string with a sign for formats, or one that ends like a hidden name"


def check_warnings(source, package):
    with warnings.catch_warnings(record=True) as given:
        warnings.simplefilter("always")
        compile(source.text, source.name, "exec")
    for warning in given:
        yield warning.lineno or 1, "L27 Python warns of this line"


def check_nodes(source, package):
    for node in source.nodes:
        if not isinstance(node, STATEMENTS + EXPRESSIONS + PARTS):
            yield getattr(node, "lineno", 1), f"L6 L7 {node.__class__.__name__}"
        if isinstance(node, (ast.Div, ast.MatMult)):
            yield node.parent.lineno, "L7 a sign that is not used"
        if isinstance(node, ast.Constant) and not (node.value is None or isinstance(node.value, (int, str))):
            yield node.lineno, "L7 a number with a point, bytes or another value that is not used"
        if isinstance(node, ast.Expr) and not is_docstring(node) and not isinstance(node.value, ast.Call):
            yield node.lineno, "L6 a statement that is only a value"
        if isinstance(node, ast.FormattedValue) and (node.conversion != -1 or node.format_spec is not None):
            yield node.lineno, "L7 a format"
        if isinstance(node, ast.FormattedValue) and any(isinstance(inner, ast.Constant) and isinstance(inner.value, str)
                                                        for inner in ast.walk(node.value)):
            yield node.lineno, "L27 a string inside the braces of an f-string"
        if isinstance(node, (ast.ListComp, ast.DictComp, ast.GeneratorExp)) and len(node.generators) > 6:
            yield node.lineno, "L7 a comprehension with more than six for"
        if isinstance(node, ast.Delete) and not all(isinstance(target, ast.Subscript) for target in node.targets):
            yield node.lineno, "L6 del of anything but items"


def check_signs(source, package):
    for node in source.inside((ast.BinOp, ast.AugAssign)):
        power = node.right if isinstance(node, ast.BinOp) else node.value
        if isinstance(node.op, ast.Pow) and not (is_number(power) and 0 <= power.value <= 64):
            yield node.lineno, "L27 a power whose exponent is not written out, from 0 to 64"
    for node in source.inside(ast.Compare):
        for left, sign, right in zip([node.left, *node.comparators], node.ops, node.comparators):
            sides = [side.value if isinstance(side, ast.Constant) else 0 for side in (left, right)]
            if isinstance(sign, (ast.Is, ast.IsNot)) and not any(side is None or isinstance(side, bool)
                                                                 for side in sides):
                yield node.lineno, "L20 is without None, True or False"


def check_module_level(source, package):
    ahead = True
    for node in source.tree.body:
        ahead = ahead and (isinstance(node, ast.ImportFrom) or is_docstring(node))
        if isinstance(node, ast.ImportFrom) and not ahead:
            yield node.lineno, "L2 an import that does not stand at the top"
        functions = {above.name for above in source.functions if above.end_lineno < node.lineno}
        value = node.value if isinstance(node, ast.Assign) and len(node.targets) == 1 else None
        plain = value is not None and (is_plain(value) or is_table(value, functions))
        if not (is_docstring(node) or plain or isinstance(node, (ast.ImportFrom, ast.FunctionDef, ast.ClassDef))):
            yield node.lineno, "L3 what does not stand at module level"
    names = source.defined + source.imported
    for name in sorted(set(names)):
        if names.count(name) > 1:
            yield 1, f"L15 {name} is bound twice"


def check_tables(source, package):
    """A table at module level is only read: an item of it, or whether it has a key."""
    for node in source.inside(ast.Name):
        if node.id in package.tables and isinstance(node.ctx, ast.Load):
            above = node.parent
            item = isinstance(above, ast.Subscript) and above.value == node and isinstance(above.ctx, ast.Load)
            asked = isinstance(above, ast.Compare) and all(isinstance(sign, (ast.In, ast.NotIn)) for sign in above.ops)
            if not item and not asked:
                yield node.lineno, "L15 a table at module level that is not just read"


def check_stars(source, package):
    """A star stands at a name: in the targets of an assignment, or in a call of a local variable."""
    for node in source.inside(ast.Starred):
        above = node.parent
        target = isinstance(node.ctx, ast.Store) and isinstance(above.parent, ast.Assign)
        known = BUILTINS | set(package.functions) | set(package.classes)
        passed = isinstance(above, ast.Call) and called_name(above) not in known | {None}
        if not isinstance(node.value, ast.Name) or not (target or passed):
            yield node.lineno, "L6 L7 a star that the checker does not know"
        elif target and isinstance(above.parent.value, ast.Call):
            if called_name(above.parent.value) in LAZY or called_method(above.parent.value) in LAZY_METHODS:
                yield node.lineno, "L6 a star in the targets of what is iterated at once"


def check_imports(source, package):
    for node in source.inside((ast.Import, ast.ImportFrom)):
        if isinstance(node, ast.Import) or node.level or not isinstance(node.parent, ast.Module):
            yield node.lineno, "L2 L16 an import of another form"
            continue
        other = package.modules.get(node.module)
        for alias in node.names:
            if other is None or alias.asname or alias.name not in other.defined:
                yield node.lineno, f"L2 L16 {alias.name} is not defined in {node.module}, or is called otherwise"


def check_functions(source, package):
    for node in source.functions:
        args = node.args
        if node.end_lineno - node.lineno >= 40:
            yield node.lineno, "L10 a function of more than 40 lines"
        if node.decorator_list or not isinstance(node.parent, (ast.Module, ast.ClassDef)):
            yield node.lineno, "L4 a decorator or a nested function"
        if args.posonlyargs or args.vararg or args.kwonlyargs or args.kwarg:
            yield node.lineno, "L4 a parameter that is not plain"
        if not all(is_plain(value) for value in args.defaults):
            yield node.lineno, "L4 a default value that is not plain"
        if node.returns or any(arg.annotation for arg in args.args):
            yield node.lineno, "L21 an annotation"


def check_classes(source, package):
    for node in source.classes:
        if node.decorator_list or node.keywords or not isinstance(node.parent, ast.Module):
            yield node.lineno, "L5 L15 a class with a decorator or a keyword, or one that is not at module level"
        for base in node.bases:
            name = base.id if isinstance(base, ast.Name) else None
            if len(node.bases) > 1 or name not in package.classes and name not in ERRORS:
                yield node.lineno, "L5 base classes that the checker does not know"
        for item in node.body:
            if not is_docstring(item) and not isinstance(item, ast.FunctionDef):
                yield item.lineno, "L5 what is neither a method nor a docstring in a class"
        methods = [item for item in node.body if isinstance(item, ast.FunctionDef)]
        if len({item.name for item in methods}) < len(methods):
            yield node.lineno, "L18 a method that is defined twice"
        yield from check_methods(methods)


def check_methods(methods):
    for method in methods:
        if not method.args.args or method.args.args[0].arg != "self":
            yield method.lineno, "L5 a method without self"
        if method.name != "__init__" and method.name.startswith("_"):
            yield method.lineno, "L5 a method that the checker does not know"
        returns = [node for node in ast.walk(method) if isinstance(node, ast.Return) and node.value]
        if method.name == "__init__" and returns:
            yield method.lineno, "L28 __init__ returns something"
        if method.name not in METHODS | {"__init__", "add", "discard"} and has_builtin_value(method.name):
            yield method.lineno, "L26 a method called like one of a builtin value"


def has_builtin_value(name):
    return any(hasattr(kind, name) for kind in BUILTIN_VALUES)


def check_attributes(source, package):
    for node in source.inside(ast.Attribute):
        called = isinstance(node.parent, ast.Call) and node.parent.func == node
        stored = not isinstance(node.ctx, ast.Load)
        if stored and not (isinstance(node.value, ast.Name) and node.value.id not in package.classes):
            yield node.lineno, "L18 an attribute that is not assigned through a local name"
        if stored and node.attr not in FREE_ATTRIBUTES and has_builtin_value(node.attr):
            yield node.lineno, f"L26 the attribute {node.attr}"
        if called and node.attr not in package.methods | METHODS | ADDITIONAL_METHODS:
            yield node.lineno, f"L25 the method {node.attr}"
        if not called and node.attr not in package.attributes:
            yield node.lineno, f"L18 L25 the attribute {node.attr}, which no class assigns"
    for name in sorted(package.methods & package.attributes):
        yield 1, f"L18 {name} is a method and an attribute"


def names_with_lines(source):
    """Every name that a file gives to something, with its line."""
    for node in source.nodes:
        if isinstance(node, (ast.FunctionDef, ast.ClassDef)):
            yield node.name, node.lineno
        if isinstance(node, ast.arg):
            yield node.arg, node.lineno
        if isinstance(node, ast.Name) and not isinstance(node.ctx, ast.Load):
            yield node.id, node.lineno
        if isinstance(node, ast.Attribute):
            yield node.attr, node.lineno
        if isinstance(node, ast.keyword) and node.arg:
            yield node.arg, node.value.lineno


def check_given_names(source, package):
    for name, line in names_with_lines(source):
        if name != "__init__" and not re.fullmatch("[A-Za-z][A-Za-z0-9_]*", name):
            yield line, f"L12 the name {name}"
        if name in NEVER_NAMES or re.match("(f|tb|co|gi|cr|ag)_", name):
            yield line, f"L17 the name {name}"
    for name in source.defined + source.imported:
        if name in ALL_BUILTINS | NEVER_VARIABLES:
            yield 1, f"L8 L17 {name} is given another meaning"


def check_local_names(source, package):
    taken = ALL_BUILTINS | NEVER_VARIABLES | set(source.imported) | {node.name for node in source.classes}
    for function in source.functions:
        bound = locals_of(function)
        for name in sorted(bound & taken):
            yield function.lineno, f"L15 L17 {name} is given another meaning"
        known = bound | set(source.defined) | set(source.imported) | BUILTINS | ERRORS
        for node in ast.walk(function):
            if isinstance(node, ast.Name) and node.id not in known and node.id not in KINDS:
                yield node.lineno, f"L8 the name {node.id}"


def check_builtins_are_called(source, package):
    for node in source.inside(ast.Name):
        if node.id not in BUILTINS | KINDS | ERRORS | set(package.classes):
            continue
        above = node.parent
        called = isinstance(above, ast.Call) and above.func == node
        kinds, asker = (above, above.parent) if isinstance(above, ast.Tuple) else (node, above)
        asked = called_name(asker) == "isinstance" and asker.args[1:] == [kinds]
        key = isinstance(above, ast.keyword) and above.arg == "key" and node.id in ("len", "int", "str", "abs", "sum")
        other = isinstance(above, (ast.ClassDef, ast.ExceptHandler))
        if not (called or asked or key or other):
            yield node.lineno, "L18 L22 a builtin or a class as a value"


def check_isinstance(source, package):
    for node in source.calls:
        if called_name(node) == "isinstance" and len(node.args) == 2:
            kinds = node.args[1].elts if isinstance(node.args[1], ast.Tuple) else [node.args[1]]
            for kind in kinds:
                if not isinstance(kind, ast.Name) or kind.id not in KINDS | ERRORS | set(package.classes):
                    yield node.lineno, "L22 isinstance of another kind"


def check_call_arguments(source, package):
    for node in source.calls:
        name = called_name(node)
        given = len(node.args)
        keywords = {keyword.arg for keyword in node.keywords}
        if not isinstance(node.func, (ast.Name, ast.Attribute)):
            yield node.lineno, "L7 L22 a call of what is neither a name nor a method"
        if name in COUNTS and not COUNTS[name][0] <= given <= COUNTS[name][1]:
            yield node.lineno, f"L22 {name} takes another number of arguments"
        if name in BUILTINS and not keywords <= KEYWORDS.get(name, set()):
            yield node.lineno, f"L22 {name} takes no such keyword"
        if called_method(node) in (METHODS | ADDITIONAL_METHODS) - package.methods and keywords:
            yield node.lineno, "L25 a keyword with a method of a builtin value"
        if called_method(node) in LAZY_METHODS and given:
            yield node.lineno, "L25 keys, values and items take no arguments"
        if name in package.functions:
            yield from check_own_arguments(node, package.functions[name])


def check_own_arguments(call, function):
    names = [arg.arg for arg in function.args.args]
    passed = names[:len(call.args)] + [keyword.arg for keyword in call.keywords]
    needed = names[:len(names) - len(function.args.defaults)]
    if len(call.args) > len(names) or len(set(passed)) < len(passed):
        yield call.lineno, f"L22 {function.name} is passed too much"
    if not set(needed) <= set(passed) <= set(names):
        yield call.lineno, f"L22 {function.name} takes other arguments"


def is_iterated_at_once(node):
    above = node.parent
    if isinstance(above, (ast.For, ast.comprehension)):
        return above.iter == node
    name = called_name(above)
    if name in ("min", "max"):
        return above.args == [node]
    if name == "zip":
        return node in above.args
    if called_method(above) == "join":
        return isinstance(above.func.value, ast.Constant)
    if name == "reversed" or name == "len":
        return called_name(node) == "range"
    return name in TAKERS and above.args[0] == node


def check_iterated_at_once(source, package):
    for node in source.calls:
        lazy = called_name(node) in LAZY or called_method(node) in LAZY_METHODS
        ranged = called_name(node) == "range" and isinstance(node.parent, ast.Compare)
        if lazy and not ranged and not is_iterated_at_once(node):
            yield node.lineno, "L23 what is iterated at once is stored"
    for node in source.inside(ast.GeneratorExp):
        above = node.parent
        joined = called_method(above) == "join" and isinstance(above.func.value, ast.Constant)
        if not joined and not (called_name(above) in EXPRESSION_TAKERS and above.args == [node]):
            yield node.lineno, "L7 a generator expression that does not stand in list, sum, all and the like"


def iterated_over(node):
    """What a loop iterates over, also through zip and the like, written as text."""
    if called_name(node) in LAZY | {"zip"} and called_name(node) != "range":
        return [text for item in node.args for text in iterated_over(item)]
    if called_method(node) in LAZY_METHODS:
        return iterated_over(node.func.value)
    return [ast.unparse(node)] if isinstance(node, (ast.Name, ast.Attribute)) else []


def modified_in(statements):
    """What is modified by statements: items assigned or deleted, and methods that modify."""
    for statement in statements:
        for node in ast.walk(statement):
            if isinstance(node, ast.Subscript) and not isinstance(node.ctx, ast.Load):
                yield node.lineno, ast.unparse(node.value)
            if isinstance(node, ast.AugAssign):
                yield node.lineno, ast.unparse(node.target)
            if called_method(node) in MODIFIERS:
                yield node.lineno, ast.unparse(node.func.value)


def check_loops(source, package):
    for loop in source.inside(ast.For):
        over = iterated_over(loop.iter)
        for line, text in modified_in(loop.body):
            if text in over:
                yield line, "L23 what a loop iterates over is modified in it"


def check_errors(source, package):
    for node in source.inside(ast.Raise):
        handled = False
        above = node.parent
        while not isinstance(above, (ast.FunctionDef, ast.Module)):
            handled = handled or isinstance(above, ast.ExceptHandler)
            above = above.parent
        if node.exc is None and not handled:
            yield node.lineno, "L19 a bare raise outside of a handler"
        if node.exc is not None and not package.is_error(called_name(node.exc) or ""):
            yield node.lineno, "L19 raise of what is not an error made on the spot"
        if node.cause is not None and not (isinstance(node.cause, ast.Constant) and node.cause.value is None):
            yield node.lineno, "L19 raise from anything but None"
    for node in source.inside(ast.Try):
        if node.finalbody:
            yield node.lineno, "L6 a finally"
        for handler in node.handlers:
            name = handler.type.id if isinstance(handler.type, ast.Name) else None
            if handler.name or name != "KeyError" and not (name in package.classes and package.is_error(name)):
                yield handler.lineno, "L19 a handler that the checker does not know"


def check_error_calls(source, package):
    for node in source.calls:
        if called_name(node) in package.classes and package.is_error(called_name(node)):
            strings = all(isinstance(item, ast.JoinedStr) or isinstance(item, ast.Constant)
                          and isinstance(item.value, str) for item in node.args)
            if node.keywords or not strings:
                yield node.lineno, "L22 an error that is passed anything but strings by position"


CHECKS = (check_characters, check_strings, check_warnings, check_nodes, check_signs, check_module_level, check_tables,
          check_stars, check_imports, check_functions, check_classes, check_attributes, check_given_names,
          check_local_names, check_builtins_are_called, check_isinstance, check_call_arguments, check_iterated_at_once,
          check_loops, check_errors, check_error_calls)


def faults_of_file_names(names):
    for name in names:
        stem = name.removesuffix(".py")
        if not re.fullmatch("([a-z][a-z0-9_]*|__init__)[.]py", name):
            yield f"L1 L14 {name} is no plain name of a file"
        if stem in ALL_BUILTINS | NEVER_NAMES | NEVER_VARIABLES | NEVER_WORDS | {"site", "conftest", "testing", "tests"}:
            yield f"L14 {name} has a name that is not used"
        if re.match("law_|test(_|$)|sitecustomize|usercustomize", stem):
            yield f"L14 {name} has a name that is not used"
    if "__init__.py" not in names:
        yield "L14 there is no __init__.py"
    if len(names) > 100:
        yield "L14 there are more than 100 files"


def faults_of_rings(package):
    imports = {source.module: [node.module for node in source.imports] for source in package.sources}
    for module in on_a_ring(imports):
        yield f"L16 {module} is imported by what it imports"
    calls = {name: [called_name(node) for node in ast.walk(function) if called_name(node)]
             for name, function in package.functions.items()}
    for name in on_a_ring(calls):
        yield f"L11 {name} calls itself"


def faults_of(files):
    """All faults of a package: file names below its folder to texts."""
    package = Package({f"{PACKAGE}/{name}": text for name, text in files.items()})
    faults = [*faults_of_file_names(files), *faults_of_rings(package)]
    for source in package.sources:
        for check in CHECKS:
            faults.extend(f"{source.name}:{line}: {words}" for line, words in check(source, package))
    return faults


def package_files():
    """The files of the package's folder, but for what Python compiles on its own."""
    found = [path for path in FOLDER.rglob("*") if "__pycache__" not in path.parts and path.is_file()]
    return {str(path.relative_to(FOLDER)): path.read_text(encoding="utf-8") for path in found}


GOOD = {
    "__init__.py": '"""A package."""\n',
    "errors.py": 'class Wrong(ValueError):\n    """Wrong."""\n',
    "work.py": '''"""Work."""

from stretchleast.errors import Wrong

LIMIT = (5, -3, "a", None)

class Box:
    """A box."""

    def __init__(self, many=3):
        self.many = many
        self.rows = []

    def put(self, row):
        if row is None:
            raise Wrong(f"no row, of {self.many}")
        self.rows.append(row)


def told(rows, least=-1):
    best = [row for row in rows if isinstance(row, (list, tuple))]
    for at, row in enumerate(best):
        try:
            found = {"a": at}["a"]
        except KeyError:
            continue
        while found > 0 and not row:
            found -= 1
    return list(zip(rows, best)), sum(len(row) for row in rows), least


def twice(rows):
    return told(rows, least=2), told(rows), sorted(rows, key=len, reverse=True), 2 ** 5


ACTIONS = {"told": told, "twice": twice}
WIDTHS = {"told": (2, True), "twice": ()}


def done(words):
    first, *others = words.removeprefix("do ").split(" ")
    if first not in ACTIONS or len(others) != len(WIDTHS[first]):
        raise Wrong("no words")
    action = ACTIONS[first]
    return action(words, *others)
''',
}

# What the checker must report: the rule, and code that breaks it.
BAD = (
    ("L2", "import os\n"),
    ("L2", "from random import choice\n"),
    ("L2", "from time import time\n"),
    ("L2", "from .errors import Wrong\n"),
    ("L2", "from stretchleast.errors import *\n"),
    ("L2", "from stretchleast.errors import Missing\n"),
    ("L2", "LIMIT = 3\nfrom stretchleast.errors import Wrong\n"),
    ("L2", "def f():\n    from stretchleast.errors import Wrong\n    return Wrong\n"),
    ("L3", "LIMIT = len('ab')\n"),
    ("L3", "if True:\n    LIMIT = 3\n"),
    ("L3", "KEPT = []\n"),
    ("L3", "KEPT = {'a': [1]}\n"),
    ("L3", "KEPT = {'a': {'b': 1}}\n"),
    ("L3", "KEPT = {'a': f}\n\n\ndef f(x):\n    return x\n"),
    ("L3", "def f(x):\n    return x\n\n\nKEPT = {'a': f(3)}\n"),
    ("L4", "def f(x, /):\n    return x\n"),
    ("L4", "def f(x=[]):\n    return x\n"),
    ("L4", "def f(*xs):\n    return xs\n"),
    ("L4", "def f(x):\n    def g():\n        return x\n    return g\n"),
    ("L5", "class Box:\n    many = 3\n"),
    ("L5", "class Box(list):\n    pass\n"),
    ("L5", "class Box:\n    def __hash__(self):\n        return 1\n"),
    ("L5", "class Box:\n    def put():\n        return 1\n"),
    ("L6", "def f():\n    global KEPT\n    KEPT = 3\n"),
    ("L6", "def f(x):\n    a, *b = x.items()\n    return a, b\n"),
    ("L6", "def f(x):\n    a, *b.c = x\n    return a\n"),
    ("L6", "async def f():\n    return 1\n"),
    ("L6", "def f(x):\n    x + 1\n"),
    ("L6", "def f(x):\n    try:\n        return x\n    finally:\n        pass\n"),
    ("L7", "def f(x):\n    return x / 2\n"),
    ("L7", "def f(x):\n    return x + 1.5\n"),
    ("L7", "def f(x):\n    return (n for n in x)\n"),
    ("L7", "def f(x):\n    return lambda: x\n"),
    ("L7", "def f(x):\n    return sum(*x)\n"),
    ("L7", "def f(x, g):\n    return g(*x.split(' '))\n"),
    ("L7", "KEPT = {'a': None}\n\n\ndef f(x):\n    return KEPT['a'](x)\n"),
    ("L7", "def f(x):\n    return f'{x!r}'\n"),
    ("L7", "def f(x):\n    return f'{x:>5}'\n"),
    ("L7", "def f():\n    return b'a'\n"),
    ("L8", "def f(x):\n    return hash(x)\n"),
    ("L8", "def f(x):\n    return open(x)\n"),
    ("L8", "def f(x):\n    return print(x)\n"),
    ("L8", "def f(x):\n    return float(x)\n"),
    ("L8", "def f(x):\n    return chr(x)\n"),
    ("L8", "def max(x):\n    return x\n"),
    ("L10", "def f():\n" + "    pass\n" * 40),
    ("L10", "LIMIT = 3\n" * 401),
    ("L10", "# " + "long " * 30 + "\n"),
    ("L11", "def f(x):\n    return f(x - 1)\n"),
    ("L11", "def f(x):\n    return g(x)\n\n\ndef g(x):\n    return f(x)\n"),
    ("L12", "def f(_x):\n    return _x\n"),
    ("L12", "def f(xs):\n    for _ in xs:\n        pass\n"),
    ("L14", "# caf\u00e9\n"),
    ("L14", "def f():\n\treturn 1\n"),
    ("L15", "LIMIT = 3\nLIMIT = 4\n"),
    ("L15", "KEPT = {'a': 1}\n\n\ndef f(x):\n    KEPT['a'] = x\n"),
    ("L15", "KEPT = {'a': 1}\n\n\ndef f(x):\n    KEPT.update(x)\n"),
    ("L15", "KEPT = {'a': 1}\n\n\ndef f():\n    return KEPT\n"),
    ("L15", "def f(min):\n    return min\n"),
    ("L15", "from stretchleast.errors import Wrong\n\n\ndef f(Wrong):\n    return Wrong\n"),
    ("L17", "# the type of a thing\n"),
    ("L17", "def f(x):\n    x.elements = 3\n    return x.elements\n"),
    ("L17", "def f(vars):\n    return vars\n"),
    ("L18", "from stretchleast.errors import Wrong\n\n\ndef f():\n    return [Wrong]\n"),
    ("L18", "class Box:\n    def put(self):\n        return self.missing\n"),
    ("L18", "class Box:\n    def put(self):\n        return 1\n\n    def put(self):\n        return 2\n"),
    ("L18", "class Box:\n    def put(self):\n        self.put = 1\n"),
    ("L19", "def f(x):\n    try:\n        return x[0]\n    except TypeError:\n        return 1\n"),
    ("L19", "def f(x):\n    try:\n        return x[0]\n    except:\n        return 1\n"),
    ("L19", "def f(x):\n    raise x\n"),
    ("L19", "from stretchleast.errors import Wrong\n\n\ndef f():\n    raise Wrong\n"),
    ("L19", "def f():\n    raise\n"),
    ("L20", "def f(x, y):\n    return x is y\n"),
    ("L21", "def f(x: int):\n    return x\n"),
    ("L21", "def f(x) -> int:\n    return x\n"),
    ("L22", "def f(x):\n    return isinstance(x, set)\n"),
    ("L22", "def f(x):\n    return sorted(x, key=max)\n"),
    ("L22", "def f(x):\n    size = len\n    return size(x)\n"),
    ("L22", "def f(x):\n    return len(x, x)\n"),
    ("L22", "def f(x):\n    return sum(x, begin=3)\n"),
    ("L22", "def f(x):\n    return g(x)\n\n\ndef g(x, y):\n    return x + y\n"),
    ("L22", "def f(x):\n    return g(z=x)\n\n\ndef g(x):\n    return x\n"),
    ("L22", "from stretchleast.errors import Wrong\n\n\ndef f(x):\n    raise Wrong(x)\n"),
    ("L23", "def f(x):\n    pairs = zip(x, x)\n    return pairs\n"),
    ("L23", "def f(x):\n    return x.items()\n"),
    ("L23", "def f(x):\n    for n in x:\n        x.append(n)\n"),
    ("L23", "def f(x):\n    for at, n in enumerate(x):\n        x[at] = n\n"),
    ("L25", "def f(x):\n    x.sort()\n    return x\n"),
    ("L25", "def f(x):\n    return x.bit_count()\n"),
    ("L25", "def f(x):\n    return x.removeprefix(prefix='a')\n"),
    ("L26", "class Box:\n    def decode(self):\n        return 1\n"),
    ("L26", "class Box:\n    def __init__(self):\n        self.items = []\n"),
    ("L27", "def f(n):\n    return 2 ** n\n"),
    ("L27", "def f(n):\n    return 'a%' + n\n"),
    ("L27", "def f():\n    return 'a\\x41'\n"),
    ("L27", "def f(x):\n    return f'{x[\"a\"]}'\n"),
    ("L28", "class Box:\n    def __init__(self):\n        return None\n"),
)


class TheChecker(unittest.TestCase):
    def test_good_code_has_no_faults(self):
        self.assertEqual(faults_of(GOOD), [])

    def test_bad_code_is_reported_with_its_rule(self):
        for rule, code in BAD:
            with self.subTest(rule, code=code):
                faults = faults_of({**GOOD, "bad.py": code})
                self.assertTrue(any(re.search(rf"\b{rule}\b", fault) for fault in faults), faults)

    def test_bad_file_names_are_reported(self):
        for name in ("notes.txt", "Rows.py", "sum.py", "test_rows.py", "tests.py", "part/rows.py", "_rows.py"):
            with self.subTest(name):
                self.assertTrue(list(faults_of_file_names(["__init__.py", name])))
        self.assertTrue(list(faults_of_file_names(["rows.py"])))

    def test_a_ring_of_imports_is_reported(self):
        one = "from stretchleast.two import g\n\n\ndef f():\n    return g()\n"
        two = "from stretchleast.one import f\n\n\ndef g():\n    return 1\n\n\ndef h():\n    return f()\n"
        faults = faults_of({"__init__.py": "", "one.py": one, "two.py": two})
        self.assertTrue(any("L16" in fault for fault in faults), faults)


class ThePackage(unittest.TestCase):
    def test_its_files_keep_the_rules(self):
        files = package_files()
        self.assertIn("__init__.py", files)
        self.assertEqual(faults_of(files), [])
