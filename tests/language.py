"""A check of the files of a package against those rules of LANGUAGE.md that a script can see.

`check(files)` takes a dict of file names (within the package) and their texts, and returns a list of
complaints `(name, line, rule, what)`. Some rules are checked more strictly than they are written: what
this package does not need (generator expressions, products, several bases ..) is refused outright.
"""

import ast
import builtins
import re

PACKAGE = "strayplates"
BUILTINS = set("""len range enumerate zip min max sum abs sorted reversed int str bool list tuple dict set
    isinstance ord repr any all divmod iter next Exception ValueError TypeError KeyError IndexError LookupError
    ZeroDivisionError ArithmeticError OverflowError RuntimeError NotImplementedError NotImplemented
    property staticmethod classmethod super""".split())
BASES = {"ValueError", "Exception", "KeyError", "IndexError", "LookupError", "TypeError", "RuntimeError"}
METHODS = set("""append clear copy count endswith extend find get index insert isalnum isalpha isdigit islower
    isspace isupper items join keys ljust lower lstrip partition pop remove replace reverse rfind rjust rpartition
    rsplit rstrip setdefault split splitlines startswith strip update upper values zfill bit_length add discard
    """.split())
CHANGING = {"append", "clear", "extend", "insert", "pop", "remove", "reverse", "setdefault", "update", "add",
            "discard"}
ATTRIBUTES_FREE = {"count", "index", "title", "find", "get", "join", "lower", "upper", "split", "strip", "copy", "add"}
OPERATORS = {
    "__lt__": 2, "__le__": 2, "__gt__": 2, "__ge__": 2, "__ne__": 2, "__add__": 2, "__sub__": 2, "__mul__": 2,
    "__and__": 2, "__or__": 2, "__xor__": 2, "__neg__": 1, "__pos__": 1, "__invert__": 1, "__abs__": 1,
    "__bool__": 1, "__contains__": 2, "__getitem__": 2, "__setitem__": 3,
}
DUNDERS = {"__init__", "__eq__", "__repr__", "__str__", "__len__", "__enter__", "__exit__", "__call__", "__iter__"}
NOWHERE = {"register", "mro", "elements", "open", "input", "law", "version_info", "with_traceback", "add_note"}
NO_NAMES = set("""attrgetter breakpoint builtins compile copyright credits delattr dir eval exec exit gc getattr
    globals hasattr help id importlib license locals methodcaller os quit setattr super type vars sys""".split())
NO_WORDS = set("""typing typing_extensions enum Enum IntEnum StrEnum Flag IntFlag Generic Protocol ABC ABCMeta
    namedtuple NamedTuple TypedDict TYPE_CHECKING abstractmethod type""".split())
NO_PARTS = ("dataclass", "overload", "contextmanager", "_WallAttr", "metaclass=", "(type)")
NO_STARTS = ("_wall", "_pe_", "_dcw_", "_enum_", "_cm_", "_twin_re_", "_lay_", "_law_", "_stub_", "_sre", "_WallAttr")
VALUE_NAMES = set(dir(str)) | set(dir(int)) | set(dir(list)) | set(dir(dict)) | set(dir(set)) | set(dir(bytes))
AT_ONCE = {"list", "tuple", "dict", "sorted", "sum", "any", "all", "enumerate", "zip", "min", "max"}
VIEWS = {"items", "keys", "values"}
STATEMENTS = (
    ast.FunctionDef, ast.ClassDef, ast.Return, ast.Delete, ast.Assign, ast.AugAssign, ast.For, ast.While, ast.If,
    ast.With, ast.Raise, ast.Try, ast.Assert, ast.ImportFrom, ast.Expr, ast.Pass, ast.Break, ast.Continue,
    ast.Nonlocal)
REFUSED = (ast.GeneratorExp, ast.Await, ast.JoinedStr, ast.NamedExpr, ast.Global, ast.Import, ast.AnnAssign)
CONTAINERS = (ast.List, ast.Dict, ast.ListComp, ast.DictComp, ast.Set)


def check(files):
    return Package(files).complaints()


def own_functions(node):
    return [part for part in ast.walk(node) if isinstance(part, ast.FunctionDef)]


def own_classes(node):
    return [part for part in ast.walk(node) if isinstance(part, ast.ClassDef)]


def stored_names(node):
    return [part for part in ast.walk(node) if isinstance(part, ast.Name) and isinstance(part.ctx, ast.Store)]


def parameters(function):
    told = function.args
    found = told.posonlyargs + told.args + told.kwonlyargs
    return found + [rest for rest in (told.vararg, told.kwarg) if rest is not None]


def is_dunder(name):
    return name.startswith("__") and name.endswith("__")


class Package:
    def __init__(self, files):
        self.files = files
        self.found = []
        self.trees = {}
        for name, text in files.items():
            try:
                self.trees[name] = ast.parse(text)
            except SyntaxError as e:
                self.found.append((name, e.lineno, "L6", "it is no Python"))
        for tree in self.trees.values():
            for node in ast.walk(tree):
                for child in ast.iter_child_nodes(node):
                    child.above = node
        self.classes = {}
        self.functions = {}
        self.functions_of = {}
        self.methods = {}
        self.stored = {}
        self.generators = set()
        self.lambdas = []
        self.setters = {method.name for tree in self.trees.values() for method in own_functions(tree)
                        if self.is_setter(method)}
        for name, tree in self.trees.items():
            self.learn(tree)
            self.functions_of[name] = {node.name: node for node in tree.body if isinstance(node, ast.FunctionDef)}

    def is_setter(self, method):
        return any(isinstance(part, ast.Attribute) and part.attr == "setter" for part in method.decorator_list)

    def learn(self, tree):
        for cls in own_classes(tree):
            self.classes[cls.name] = cls
            for node in cls.body:
                if isinstance(node, ast.FunctionDef):
                    self.methods.setdefault(node.name, []).append(node)
                elif isinstance(node, ast.Assign):
                    self.stored.setdefault(node.targets[0].id, set()).add(cls.name)
        for node in tree.body:
            if isinstance(node, ast.FunctionDef):
                self.functions[node.name] = node
        for node in ast.walk(tree):
            if isinstance(node, ast.Attribute) and isinstance(node.ctx, ast.Store):
                if node.attr in self.setters and ast.unparse(node.value) != "self":
                    continue
                cls = self.class_around(node)
                self.stored.setdefault(node.attr, set()).add(cls.name if cls else None)
            if isinstance(node, ast.FunctionDef) and self.yields(node):
                self.generators.add(node.name)

    def class_around(self, node):
        while not isinstance(node, (ast.ClassDef, ast.Module)):
            node = node.above
        return node if isinstance(node, ast.ClassDef) else None

    def function_around(self, node):
        node = node.above
        while not isinstance(node, (ast.FunctionDef, ast.Lambda, ast.Module)):
            node = node.above
        return node

    def yields(self, function):
        return any(isinstance(node, (ast.Yield, ast.YieldFrom)) and self.function_around(node) is function
                   for node in ast.walk(function))

    def is_property(self, method):
        return self.is_setter(method) or any(
            isinstance(part, ast.Name) and part.id == "property" for part in method.decorator_list)

    def complain(self, name, node, rule, what):
        line = node if isinstance(node, int) else getattr(node, "lineno", 0)
        self.found.append((name, line, rule, what))

    def complaints(self):
        self.check_names_of_files()
        self.check_cycles()
        for name, text in self.files.items():
            self.check_text(name, text)
        for name, tree in self.trees.items():
            self.check_module(name, tree)
            self.check_bindings(name, tree)
            for cls in own_classes(tree):
                self.check_class(name, cls)
            for function in own_functions(tree):
                self.check_function(name, function)
            self.lambdas = [node for node in ast.walk(tree) if isinstance(node, ast.Lambda)]
            for node in ast.walk(tree):
                self.check_node(name, node)
        self.check_pure()
        return sorted(self.found, key=lambda row: (row[0], row[1], row[2]))

    # Files, characters, sizes

    def check_names_of_files(self):
        if "__init__.py" not in self.files:
            self.complain("", 0, "L14", "there is no __init__.py")
        if len(self.files) > 100:
            self.complain("", 0, "L14", "there are more than 100 files")
        for name in self.files:
            stem = name[:-3]
            if not re.fullmatch(r"[a-z0-9_]+\.py", name):
                self.complain(name, 0, "L1", "the name is not plain")
            if stem in NOWHERE or stem != "__init__" and hasattr(builtins, stem) or re.match(r"law_|test", stem):
                self.complain(name, 0, "L14", "the name is barred")

    def check_text(self, name, text):
        lines = text.split("\n")
        if len(lines) - 1 > 399:
            self.complain(name, 400, "L10", "the file is too long")
        for number, line in enumerate(lines, 1):
            if len(line) > 120:
                self.complain(name, number, "L10", "the line is too long")
            if any(not " " <= sign <= "~" for sign in line):
                self.complain(name, number, "L14", "a character is barred")
            if "_WallAttr" in line or re.search(r"\b_wall\b", line):
                self.complain(name, number, "L12", "a word is barred")
            if any(part in line for part in NO_PARTS):
                self.complain(name, number, "L17", "a part of a word is barred")
            if line != line.rstrip():
                self.complain(name, number, "L10", "blanks at the end")
        for node in ast.walk(self.trees.get(name, ast.Module([], []))):
            if isinstance(node, ast.FunctionDef):
                first = min([node.lineno] + [part.lineno for part in node.decorator_list])
                if node.end_lineno - first + 1 > 40:
                    self.complain(name, node, "L10", "the function is too long")

    # Imports

    def imports_of(self, tree):
        found = []
        for node in ast.walk(tree):
            if isinstance(node, ast.ImportFrom) and node.module and node.module.startswith(PACKAGE + "."):
                found.append(node.module[len(PACKAGE) + 1:] + ".py")
        return found

    def check_cycles(self):
        links = {name: self.imports_of(tree) for name, tree in self.trees.items()}
        for start in links:
            met, waiting = set(), list(links[start])
            while waiting:
                here = waiting.pop()
                if here not in met:
                    met.add(here)
                    waiting += links.get(here, [])
            if start in met:
                self.complain(start, 0, "L16", "it imports itself through others")

    def check_import(self, name, node):
        if node.level or not node.module or not node.module.startswith(PACKAGE + "."):
            self.complain(name, node, "L2", "an import from outside")
            return
        target = node.module[len(PACKAGE) + 1:] + ".py"
        if target not in self.trees:
            self.complain(name, node, "L16", "no such file")
            return
        for alias in node.names:
            if alias.asname or alias.name == "*":
                self.complain(name, node, "L2", "an import with as, or of everything")
            elif alias.name not in self.bound_in(self.trees[target], imports=False):
                self.complain(name, node, "L16", f"{target} does not define {alias.name}")

    def bound_in(self, tree, imports=True):
        found = []
        for node in tree.body:
            if isinstance(node, (ast.FunctionDef, ast.ClassDef)):
                found.append(node.name)
            elif isinstance(node, ast.Assign):
                found += [target.id for target in node.targets if isinstance(target, ast.Name)]
            elif isinstance(node, ast.ImportFrom) and imports:
                found += [alias.name for alias in node.names]
        return found

    # Module level, bindings

    def check_module(self, name, tree):
        others = False
        for number, node in enumerate(tree.body):
            if isinstance(node, ast.ImportFrom):
                if others:
                    self.complain(name, node, "L2", "an import not at the top")
                self.check_import(name, node)
            elif isinstance(node, ast.Assign):
                others = True
                if len(node.targets) != 1 or not isinstance(node.targets[0], ast.Name):
                    self.complain(name, node, "L3", "not one name")
                self.check_plain(name, node.value, True)
            elif isinstance(node, (ast.FunctionDef, ast.ClassDef)):
                others = True
            elif not (number == 0 and isinstance(node, ast.Expr) and isinstance(node.value, ast.Constant)):
                self.complain(name, node, "L3", "a statement at module level")
        imported = [alias.name for node in tree.body if isinstance(node, ast.ImportFrom) for alias in node.names]
        used = {node.id for node in ast.walk(tree) if isinstance(node, ast.Name)}
        for word in imported:
            if word not in used:
                self.complain(name, 1, "L2", f"{word} is imported and not used")

    def check_plain(self, name, value, outer):
        if isinstance(value, ast.Constant) and isinstance(value.value, (int, str, bytes, type(None))):
            return
        if isinstance(value, ast.UnaryOp) and isinstance(value.op, ast.USub):
            return self.check_plain(name, value.operand, False)
        if isinstance(value, ast.Tuple) or outer and isinstance(value, ast.List):
            return [self.check_plain(name, part, False) for part in value.elts]
        if outer and isinstance(value, ast.Dict):
            return [self.check_plain(name, part, False) for part in value.keys + value.values]
        if isinstance(value, ast.Name) and value.id in self.functions:
            return
        self.complain(name, value, "L3", "a value that is not plain")

    def check_bindings(self, name, tree):
        bound = self.bound_in(tree)
        for word in set(bound):
            if bound.count(word) > 1:
                self.complain(name, 1, "L15", f"{word} is bound twice")
            if hasattr(builtins, word):
                self.complain(name, 1, "L15", f"{word} is a builtin")
        barred = {node.name for node in tree.body if isinstance(node, ast.ClassDef)}
        barred |= {alias.name for node in tree.body if isinstance(node, ast.ImportFrom) for alias in node.names}
        for function in own_functions(tree):
            local = [part.arg for part in parameters(function)] + [part.id for part in stored_names(function)]
            local += [part.name for part in own_functions(function) if part is not function]
            for word in local:
                if word in barred:
                    self.complain(name, function, "L15", f"{word} is a class or an import of this file")
                if hasattr(builtins, word):
                    self.complain(name, function, "L15", f"{word} is a builtin")

    def check_word(self, name, node, word, attribute=False):
        if is_dunder(word) and (word in DUNDERS or word in OPERATORS):
            return
        if word != "_" and not re.fullmatch(r"_?[A-Za-z][A-Za-z0-9_]*", word) or word.startswith(NO_STARTS):
            self.complain(name, node, "L12", f"the name {word}")
        if word in NOWHERE or word in NO_NAMES and not attribute or word in NO_WORDS:
            self.complain(name, node, "L17", f"the name {word}")

    # Classes and functions

    def check_class(self, name, cls):
        if cls.decorator_list or cls.keywords or not isinstance(cls.above, ast.Module):
            self.complain(name, cls, "L5", "the form of the class")
        if len(cls.bases) > 1 or any(not isinstance(base, ast.Name) for base in cls.bases):
            self.complain(name, cls, "L5", "its bases")
        for base in cls.bases:
            if isinstance(base, ast.Name) and base.id not in BASES and base.id not in self.classes:
                self.complain(name, cls, "L5", f"its base {base.id}")
        self.check_word(name, cls, cls.name)
        words = [node.name for node in cls.body if isinstance(node, ast.FunctionDef)]
        for node in cls.body:
            if isinstance(node, ast.Assign):
                self.check_plain(name, node.value, False)
            elif not isinstance(node, (ast.FunctionDef, ast.Pass)) and not (
                    isinstance(node, ast.Expr) and isinstance(node.value, ast.Constant)):
                self.complain(name, node, "L5", "in the body of a class")
        for word in set(words):
            if words.count(word) > 1 and not all(self.is_property(node) for node in self.methods[word]):
                self.complain(name, cls, "L18", f"{word} is defined twice")
            if cls.name in self.stored.get(word, ()) and not self.is_property(self.methods[word][0]):
                self.complain(name, cls, "L18", f"{word} is a method and an attribute")
            if word in self.stored and any(self.is_property(node) for node in self.methods[word]):
                if cls.name not in self.stored[word]:
                    self.complain(name, cls, "L5", f"{word} is a property, and an attribute elsewhere")
        if "__getitem__" in words and "__iter__" not in words:
            self.complain(name, cls, "L5", "an index, but no iteration")

    def check_function(self, name, function):
        method = isinstance(function.above, ast.ClassDef)
        self.check_word(name, function, function.name)
        for part in parameters(function):
            self.check_word(name, function, part.arg)
            if part.annotation is not None:
                self.complain(name, function, "L21", "an annotation")
        for part in function.decorator_list:
            told = ast.unparse(part)
            if not method or told not in ("property", "staticmethod", "classmethod") and not told.endswith(".setter"):
                self.complain(name, function, "L4", f"the decorator {told}")
        for value in function.args.defaults + [part for part in function.args.kw_defaults if part is not None]:
            parts = value.elts if isinstance(value, ast.Tuple) else [value]
            if not all(isinstance(part, ast.Constant) for part in parts):
                self.complain(name, function, "L4", "a default value")
        if is_dunder(function.name):
            self.check_dunder(name, function, method)
        elif method:
            self.check_method(name, function)
        elif function.name in self.methods and function.name in self.generators:
            self.complain(name, function, "L23", "the name of a generator")
        if self.yields(function) and (is_dunder(function.name) or function.decorator_list):
            self.complain(name, function, "L23", "a generator here")

    def check_method(self, name, method):
        word = method.name
        if word in VALUE_NAMES and word not in METHODS:
            self.complain(name, method, "L26", f"the method {word}")
        if self.is_property(method):
            if word in VALUE_NAMES or any(not self.is_property(other) for other in self.methods[word]):
                self.complain(name, method, "L5", f"the property {word}")
            if word in self.functions and word in self.generators:
                self.complain(name, method, "L5", f"the property {word}")
        if word in self.generators and (len(self.methods[word]) > 1 or word in METHODS or word in self.functions):
            self.complain(name, method, "L23", "the name of a generator")
        if method.args.kwonlyargs and word in METHODS:
            self.complain(name, method, "L4", "a bare star")

    def check_dunder(self, name, function, method):
        word = function.name
        if not method or word not in DUNDERS and word not in OPERATORS:
            self.complain(name, function, "L5", f"the method {word}")
            return
        rows = [node for node in function.body if not (
            isinstance(node, ast.Expr) and isinstance(node.value, ast.Constant))]
        last = ast.unparse(rows[-1]) if rows else ""
        if word in OPERATORS and len(function.args.args) != OPERATORS[word]:
            self.complain(name, function, "L5", "the parameters of an operator")
        if word == "__iter__" and (len(rows) != 1 or not re.fullmatch(r"return iter\(self(\.\w+){1,2}\)", last)):
            self.complain(name, function, "L5", "the form of __iter__")
        if word == "__exit__":
            self.check_exit(name, rows)
        if word == "__len__" and (len(rows) != 1 or not re.fullmatch(r"return len\(self\.\w+\)", last)):
            self.complain(name, function, "L28", "the form of __len__")
        if word == "__bool__" and not re.match(r"return (not |bool\(|isinstance|any\(|all\(|.* is |.* in )", last):
            self.complain(name, function, "L5", "the form of __bool__")
        for node in ast.walk(function):
            if isinstance(node, ast.Return) and word == "__init__" and node.value is not None:
                self.complain(name, node, "L28", "__init__ returns something")

    def check_exit(self, name, rows):
        """Of what L6 allows in `__exit__`, only names kept of attributes, and attributes assigned plainly."""
        for row in rows:
            plain = isinstance(row, ast.Assign) and isinstance(row.value, (ast.Name, ast.Attribute, ast.Constant))
            if not plain or not all(isinstance(target, (ast.Name, ast.Attribute)) for target in row.targets):
                self.complain(name, row, "L6", "in __exit__")

    # Nodes

    def check_node(self, name, node):
        if isinstance(node, ast.stmt) and not isinstance(node, STATEMENTS) or isinstance(node, REFUSED):
            self.complain(name, node, "L2" if isinstance(node, ast.Import) else "L6", type(node).__name__)
        if isinstance(node, ast.Constant):
            self.check_constant(name, node)
        if isinstance(node, ast.Name):
            self.check_name(name, node)
        if isinstance(node, ast.Attribute):
            self.check_attribute(name, node)
        if isinstance(node, ast.Call):
            self.check_call(name, node)
        if isinstance(node, ast.For):
            self.check_loop(name, node)
        if isinstance(node, (ast.BinOp, ast.AugAssign)) and isinstance(node.op, (ast.Div, ast.MatMult, ast.Pow)):
            self.complain(name, node, "L7", "the operator")
        if isinstance(node, ast.Compare):
            self.check_compare(name, node)
        if isinstance(node, (ast.ListComp, ast.DictComp, ast.SetComp)):
            if not isinstance(self.function_around(node), (ast.FunctionDef, ast.Lambda)):
                self.complain(name, node, "L7", "a comprehension outside of functions")
            if len(node.generators) > 6:
                self.complain(name, node, "L7", "too many loops")
        if isinstance(node, (ast.Set, ast.SetComp)):
            self.check_set(name, node)
        if isinstance(node, ast.ExceptHandler):
            self.check_handler(name, node)
        if isinstance(node, ast.Raise) and node.exc is not None:
            called = node.exc.func if isinstance(node.exc, ast.Call) else None
            if not isinstance(called, ast.Name) or called.id not in self.classes and called.id not in BASES:
                self.complain(name, node, "L19", "it does not create its error")
        if isinstance(node, ast.Subscript):
            self.check_index(name, node)
        if isinstance(node, ast.Slice) and node.step is not None and ast.unparse(node.step) == "0":
            self.complain(name, node, "L7", "a step of 0")
        if isinstance(node, ast.Lambda) and any(
                other is not node and other.lineno == node.lineno for other in self.lambdas):
            self.complain(name, node, "L13", "two lambdas on one line")
        if isinstance(node, ast.Starred) and isinstance(node.above, ast.Call):
            if not isinstance(node.value, (ast.Name, ast.Attribute)):
                self.complain(name, node, "L7", "behind a star in a call")

    def check_index(self, name, node):
        """No star stands within the brackets of a subscript, at any depth."""
        for part in ast.walk(node.slice):
            doubled = isinstance(part, ast.keyword) and part.arg is None or isinstance(part, ast.Dict) and None in part.keys
            if isinstance(part, ast.Starred) or doubled:
                self.complain(name, part if hasattr(part, "lineno") else node, "L7", "a star in an index")

    def check_constant(self, name, node):
        if isinstance(node.value, (float, complex)) or node.value is ...:
            self.complain(name, node, "L7", "a number that is no integer")
        if not isinstance(node.value, str):
            return
        docstring = isinstance(node.above, ast.Expr)
        told = node.value
        if "%" in told and not docstring:
            self.complain(name, node, "L27", "a string with a per cent sign")
        if told.endswith(("._", ".__")) or told.startswith("__") and told.endswith("__"):
            self.complain(name, node, "L27", "a string with underscores")
        if not docstring and any(word in NO_WORDS - {"type"} for word in re.findall(r"\w+", told)):
            self.complain(name, node, "L17", "a word in a string")

    def check_name(self, name, node):
        if node.id != "_" or isinstance(node.ctx, ast.Load):
            self.check_word(name, node, node.id) if node.id not in BUILTINS else None
        if node.id == "_" and isinstance(node.ctx, ast.Load):
            self.complain(name, node, "L12", "_ is read")
        if isinstance(node.ctx, ast.Load) and hasattr(builtins, node.id) and node.id not in BUILTINS:
            self.complain(name, node, "L8", f"the builtin {node.id}")
        above = node.above
        called = isinstance(above, ast.Call) and above.func is node
        if node.id in BUILTINS and node.id.islower() and not called:
            keyed = isinstance(above, ast.keyword) and above.arg == "key"
            asked = isinstance(above, (ast.Call, ast.Tuple)) and "isinstance(" in ast.unparse(
                above if isinstance(above, ast.Call) else above.above)
            if not keyed and not asked and not isinstance(above, ast.FunctionDef):
                self.complain(name, node, "L22", f"{node.id} as a value")
        if node.id in self.classes and isinstance(node.ctx, ast.Load) and not called:
            read = isinstance(above, (ast.Attribute, ast.ClassDef, ast.ExceptHandler, ast.Tuple))
            asked = isinstance(above, ast.Call) and ast.unparse(above.func) == "isinstance" and above.args[1] is node
            if not read and not asked:
                self.complain(name, node, "L18", f"the class {node.id} as a value")
        if node.id in self.generators and not called:
            self.complain(name, node, "L23", "a generator as a value")

    def check_attribute(self, name, node):
        self.check_word(name, node, node.attr, attribute=True)
        if isinstance(node.ctx, ast.Store):
            if not isinstance(node.value, ast.Name) or node.value.id in self.classes:
                self.complain(name, node, "L18", "how an attribute is assigned")
            if node.attr in VALUE_NAMES and node.attr not in ATTRIBUTES_FREE:
                self.complain(name, node, "L26", f"the attribute {node.attr}")
            return
        called = isinstance(node.above, ast.Call) and node.above.func is node
        if called and node.attr not in METHODS and node.attr not in self.methods and node.attr not in self.stored:
            self.complain(name, node, "L25", f"the method {node.attr}")
        if not called and node.attr not in self.stored and node.attr != "setter":
            if not any(self.is_property(method) for method in self.methods.get(node.attr, [])):
                self.complain(name, node, "L18", f"the attribute {node.attr}")

    def check_call(self, name, node):
        func = node.func
        if isinstance(func, ast.Name):
            self.check_builtin_call(name, node, func.id)
            if func.id in self.functions or func.id in self.classes:
                self.check_own_call(name, node, func.id)
        if isinstance(func, ast.Attribute):
            word = func.attr
            if word in METHODS and word not in self.methods and node.keywords:
                self.complain(name, node, "L25", "keywords of a builtin method")
            if word in VIEWS:
                self.check_at_once(name, node, word)
            if word in self.generators:
                self.check_at_once(name, node, word)
        if isinstance(func, (ast.Constant, ast.Call)):
            self.complain(name, node, "L7", "what is called")

    def check_builtin_call(self, name, node, word):
        allowed = {"sorted": {"key", "reverse"}, "min": {"key", "default"}, "max": {"key", "default"},
                   "sum": {"start"}, "enumerate": {"start"}, "zip": {"strict"}}
        if word in BUILTINS and word.islower():
            for keyword in node.keywords:
                if keyword.arg not in allowed.get(word, ()):
                    self.complain(name, node, "L22", f"the keyword {keyword.arg}")
        if word in ("zip", "enumerate", "reversed", "range") or word in self.generators:
            self.check_at_once(name, node, word)
        if word == "reversed" and ast.unparse(node.args[0]).split("(")[0] not in ("list", "tuple", "sorted", "range"):
            self.complain(name, node, "L5", "what is reversed")
        if word == "set":
            self.check_set(name, node)
        if word == "iter" and self.function_around(node).name != "__iter__":
            self.complain(name, node, "L8", "iter here")
        if word == "next" or word == "chr" or word == "pow":
            self.complain(name, node, "L27", word)
        if word == "isinstance" and not isinstance(node.args[1], (ast.Name, ast.Tuple)):
            self.complain(name, node, "L22", "what isinstance asks")

    def function_called(self, name, word):
        """The function of this name: that of the file itself, if it has one."""
        return self.functions_of[name].get(word) or self.functions.get(word)

    def check_own_call(self, name, node, word):
        function = self.function_called(name, word)
        if function is None:
            inits = [part for part in self.classes[word].body if getattr(part, "name", "") == "__init__"]
            if not inits:
                if (node.args or node.keywords) and not self.classes[word].bases:
                    self.complain(name, node, "L22", "arguments for a class without __init__")
                return
            function = inits[0]
        told = function.args
        if told.vararg or told.kwarg or any(isinstance(part, ast.Starred) for part in node.args):
            return
        places = [part.arg for part in told.args if part.arg != "self"]
        needed = set(places[:len(places) - len(told.defaults)])
        needed |= {part.arg for part, value in zip(told.kwonlyargs, told.kw_defaults) if value is None}
        passed = places[:len(node.args)] + [keyword.arg for keyword in node.keywords]
        known = set(places) | {part.arg for part in told.kwonlyargs}
        twice = len(node.args) > len(places) or len(set(passed)) < len(passed)
        if twice or set(passed) - known or needed - set(passed):
            self.complain(name, node, "L22", f"the arguments of {word}")

    def check_at_once(self, name, node, word):
        above = node.above
        if isinstance(above, (ast.For, ast.comprehension)) and above.iter is node:
            return
        if isinstance(above, ast.Call) and isinstance(above.func, ast.Name) and above.func.id in AT_ONCE:
            if above.args[0] is node or above.func.id == "zip":
                return
        if isinstance(above, ast.Call) and word == "range" and ast.unparse(above.func) in ("len", "reversed"):
            return
        asked = isinstance(above, ast.Compare) and isinstance(above.ops[0], (ast.In, ast.NotIn))
        if asked and word in ("range", "keys"):
            return
        if isinstance(above, ast.Assign) and isinstance(above.targets[0], ast.Name) and word == "range":
            return
        if isinstance(above, ast.YieldFrom) and word in self.generators:
            return
        self.complain(name, node, "L23", f"{word} is not iterated at once")

    def check_set(self, name, node):
        above = node.above
        if isinstance(above, ast.Call) and isinstance(above.func, ast.Name) and above.func.id in ("sorted", "len"):
            return
        if isinstance(above, ast.Compare):
            return
        if isinstance(above, ast.Assign) and isinstance(above.targets[0], ast.Name):
            function = self.function_around(node)
            word = above.targets[0].id
            uses = [part for part in ast.walk(function) if isinstance(part, ast.Name) and part.id == word]
            if len([part for part in uses if isinstance(part.ctx, ast.Store)]) == 1:
                return
        self.complain(name, node, "L24", "where a set stands")

    def check_compare(self, name, node):
        for op, right in zip(node.ops, node.comparators):
            if isinstance(op, (ast.Is, ast.IsNot)):
                if not isinstance(right, ast.Constant) or right.value not in (None, True, False):
                    self.complain(name, node, "L20", "is")

    def check_handler(self, name, node):
        kinds = node.type.elts if isinstance(node.type, ast.Tuple) else [node.type]
        for kind in kinds:
            if not isinstance(kind, ast.Name) or kind.id not in self.classes and kind.id not in (
                    "KeyError", "ZeroDivisionError"):
                self.complain(name, node, "L19", "what is caught")

    def check_loop(self, name, node):
        gone_over = {ast.unparse(node.iter)}
        if isinstance(node.iter, ast.Call) and ast.unparse(node.iter.func) in ("zip", "enumerate", "reversed"):
            gone_over |= {ast.unparse(part) for part in node.iter.args}
        if isinstance(node.iter, ast.Call) and isinstance(node.iter.func, ast.Attribute):
            gone_over.add(ast.unparse(node.iter.func.value))
        for row in node.body + node.orelse:
            for part in ast.walk(row):
                if self.changed(part) in gone_over:
                    self.complain(name, part, "L23", "what the loop goes over is changed in it")

    def changed(self, node):
        """What a node changes, as it is written, or None."""
        if isinstance(node, ast.Call) and isinstance(node.func, ast.Attribute) and node.func.attr in CHANGING:
            return ast.unparse(node.func.value)
        if isinstance(node, ast.Subscript) and isinstance(node.ctx, (ast.Store, ast.Del)):
            return ast.unparse(node.value)
        return None

    # What operators and properties run changes only what it has made itself

    def check_pure(self):
        waiting = [method for word, found in self.methods.items() for method in found
                   if word in OPERATORS and word != "__setitem__"
                   or self.is_property(method) and not self.is_setter(method)
                   or word in ("__eq__", "__str__", "__repr__", "__len__")]
        met = []
        while waiting:
            function = waiting.pop()
            if function in met:
                continue
            met.append(function)
            self.check_purity(function)
            for node in ast.walk(function):
                if isinstance(node, ast.Call):
                    waiting += self.called_by(node)

    def called_by(self, node):
        if isinstance(node.func, ast.Name):
            if node.func.id in self.functions:
                return [self.function_called(self.file_of(node), node.func.id)]
            if node.func.id in self.classes:
                return [part for part in self.classes[node.func.id].body if getattr(part, "name", "") == "__init__"]
            return []
        return self.methods.get(node.func.attr, []) if isinstance(node.func, ast.Attribute) else []

    def file_of(self, node):
        while not isinstance(node, ast.Module):
            node = node.above
        return [name for name, tree in self.trees.items() if tree is node][0]

    def check_purity(self, function):
        name = self.file_of(function)
        values = {}
        for node in ast.walk(function):
            if isinstance(node, ast.Assign):
                for target in node.targets:
                    if isinstance(target, ast.Name):
                        values.setdefault(target.id, []).append(node.value)
        own = {word for word, told in values.items() if all(self.is_made(value) for value in told)}
        objects = {word for word, told in values.items() if all(
            isinstance(value, ast.Call) and isinstance(value.func, ast.Name) and value.func.id in self.classes
            for value in told)}
        handed = {part.arg for part in parameters(function)}
        for node in ast.walk(function):
            if isinstance(node, ast.Call) and isinstance(node.func, ast.Attribute):
                if node.func.attr in self.methods and node.func.attr in self.stored:
                    self.complain(name, node, "L18", f"{node.func.attr} is an attribute elsewhere")
            what = self.changed(node)
            if what is not None and what not in own and what.split(".")[0] not in objects:
                self.complain(name, node, "L5", f"an operator or a property runs this, and {what} is changed")
            if isinstance(node, ast.Attribute) and isinstance(node.ctx, ast.Store):
                word = ast.unparse(node.value)
                if word not in objects and not (word == "self" and function.name == "__init__"):
                    self.complain(name, node, "L5", "an operator or a property runs this")
            if isinstance(node, ast.AugAssign) and not isinstance(node.value, ast.Constant):
                self.complain(name, node, "L5", "an operator or a property runs this")
            if isinstance(node, ast.Call) and isinstance(node.func, ast.Name):
                if node.func.id in handed or node.func.id in values:
                    self.complain(name, node, "L5", "an operator or a property calls what it is passed or holds")

    def is_made(self, value):
        if isinstance(value, CONTAINERS):
            return True
        if isinstance(value, ast.Call) and isinstance(value.func, ast.Name):
            return value.func.id in ("list", "dict", "set", "sorted")
        return False
