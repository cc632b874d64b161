"""A checker for the rules of LANGUAGE.md which the package could break by mistake.

It is stricter than the rules in places: what the package does without, as sets, lambdas and generator
expressions, is refused altogether. Each complaint is a string with the file, the line and the rule.
"""

import ast
import builtins
import re

ALLOWED_BUILTINS = set(
    "len range enumerate zip min max sum abs sorted int str bool list tuple dict isinstance repr any all divmod "
    "reversed Exception ValueError TypeError KeyError IndexError LookupError ZeroDivisionError ArithmeticError "
    "OverflowError RuntimeError NotImplementedError ord".split())
ALLOWED_METHODS = set(
    "append clear copy count endswith extend find get index insert isalnum isalpha isdigit islower isspace isupper "
    "items join keys ljust lower lstrip partition pop remove replace reverse rfind rjust rpartition rsplit rstrip "
    "setdefault split splitlines startswith strip update upper values zfill bit_length".split())
MUTATORS = set("append clear extend insert pop remove reverse setdefault update sort add discard".split())
DUNDERS = set("__init__ __eq__ __repr__ __str__ __len__ __add__ __sub__ __mul__ __neg__".split())
BANNED_NAMES = set(
    "register mro elements open input law version_info with_traceback add_note attrgetter breakpoint builtins compile "
    "copyright credits delattr dir eval exec exit gc globals help id importlib license locals methodcaller os quit "
    "super type vars sys args _cold _tuplegetter _outside _record _written_out _member_names".split())
BANNED_PREFIXES = ("_wall", "_pe_", "_dcw_", "_enum_", "_cm_", "_twin_re_", "_lay_", "_law_", "_stub_", "_sre")
BANNED_WORDS = re.compile(
    r"\b(type|typing|typing_extensions|enum|Enum|IntEnum|StrEnum|Flag|IntFlag|Generic|Protocol|ABC|ABCMeta|namedtuple|"
    r"NamedTuple|TypedDict|TYPE_CHECKING|abstractmethod)\b|dataclass|overload|contextmanager|_wall")
BANNED_ATTRIBUTES = set("items keys values pop update append clear extend insert remove reverse setdefault sort args encode "
                        "decode hex fromhex format format_map mro".split())
VALUE_ATTRIBUTES = {name for kind in (str, int, list, dict, set, bytes, tuple) for name in dir(kind)}
VIEWS = {"zip", "enumerate", "reversed", "range", "items", "keys", "values"}
CONSUMERS = {"list", "tuple", "dict", "sorted", "sum", "any", "all", "enumerate", "zip", "min", "max", "reversed", "len"}
LIBRARY = {"math": {"gcd", "lcm"}}
COPIES = {"list", "dict", "sorted"}


def complaints(sources):
    """The complaints about a package, a dict from the names of its files to their texts."""
    package = Package(sources)
    found = []
    for name in sorted(sources):
        found += FileCheck(name, sources[name], package).found
    return found + package.complaints()


def walk_functions(tree):
    return [node for node in ast.walk(tree) if isinstance(node, ast.FunctionDef)]


class Package:
    """What the files of the package define together."""

    def __init__(self, sources):
        self.trees = {name: ast.parse(text) for name, text in sources.items()}
        self.defined = {}
        self.classes = {}
        self.functions = {}
        self.methods = {}
        self.properties = set()
        self.attributes = {}
        for name, tree in self.trees.items():
            self.defined[name] = set()
            for node in tree.body:
                if isinstance(node, (ast.FunctionDef, ast.ClassDef)):
                    self.defined[name].add(node.name)
                elif isinstance(node, ast.Assign):
                    self.defined[name].add(node.targets[0].id)
                if isinstance(node, ast.FunctionDef):
                    self.functions[node.name] = (name, node)
                if isinstance(node, ast.ClassDef):
                    self.add_class(name, node)

    def add_class(self, name, node):
        self.classes[node.name] = node
        self.attributes[node.name] = {
            at.attr for at in ast.walk(node)
            if isinstance(at, ast.Attribute) and isinstance(at.ctx, ast.Store) and getattr(at.value, "id", "") == "self"}
        for method in [part for part in node.body if isinstance(part, ast.FunctionDef) and not is_setter(part)]:
            self.methods.setdefault(method.name, []).append((name, node, method))
            if any(getattr(mark, "id", "") == "property" for mark in method.decorator_list):
                self.properties.add(method.name)

    def complaints(self):
        found = []
        plain = {name for name, rows in self.methods.items() for _, _, method in rows
                 if not any(getattr(mark, "id", "") == "property" for mark in method.decorator_list)}
        stored = set().union(*self.attributes.values()) if self.attributes else set()
        found += [f"package L5 property and method: {name}" for name in self.properties & plain]
        found += [f"package L5 property and attribute: {name}" for name in self.properties & stored]
        for name, node in self.classes.items():
            own = {part.name for part in node.body if isinstance(part, ast.FunctionDef)}
            found += [f"package L18 method and attribute: {name}.{both}" for both in own & self.attributes[name]]
        found += [f"package L18 method and attribute: {name}" for name in plain & stored]
        taken = {name for name in plain if name in VALUE_ATTRIBUTES and name not in ALLOWED_METHODS and name not in DUNDERS}
        found += [f"package L26 method: {name}" for name in taken]
        return found + self.ring_complaints() + self.purity_complaints()

    def ring_complaints(self):
        edges = {name: {node.module.split(".")[1] + ".py" for node in tree.body
                        if isinstance(node, ast.ImportFrom) and node.module.startswith("leastlog.")}
                 for name, tree in self.trees.items()}
        placed = set()
        while True:
            ready = {name for name in edges if name not in placed and edges[name] <= placed}
            if not ready:
                return [f"{name}: L16 imports in a ring" for name in sorted(set(edges) - placed)]
            placed |= ready

    def purity_complaints(self):
        """What operators, properties and texts may not do, nor what they call."""
        found, seen = [], set()
        queue = [row for name, rows in self.methods.items() for row in rows
                 if name in DUNDERS - {"__init__"} or name in self.properties]
        while queue:
            name, owner, function = queue.pop()
            if id(function) in seen:
                continue
            seen.add(id(function))
            found += [f"{name}:{line} L5 changes something" for line in changes(function)]
            for node in ast.walk(function):
                if isinstance(node, ast.Call) and isinstance(node.func, ast.Name):
                    called = node.func.id
                    if called in self.functions:
                        queue.append((self.functions[called][0], None, self.functions[called][1]))
                    elif called in self.classes:
                        queue += [row for row in self.methods.get("__init__", []) if row[1].name == called]
                    elif called not in ALLOWED_BUILTINS and called not in LIBRARY["math"]:
                        found.append(f"{name}:{node.lineno} L5 calls {called}")
                elif isinstance(node, ast.Attribute):
                    queue += self.methods.get(node.attr, [])
        return found


def is_setter(function):
    """Whether a function is the setter of a property."""
    return any(isinstance(mark, ast.Attribute) for mark in function.decorator_list)


def changes(function):
    """The lines at which a function changes something that it did not create."""
    created = {}
    for node in ast.walk(function):
        if isinstance(node, ast.Assign) and isinstance(node.targets[0], ast.Name):
            fresh = isinstance(node.value, (ast.List, ast.Dict, ast.ListComp, ast.DictComp))
            fresh = fresh or isinstance(node.value, ast.Call) and getattr(node.value.func, "id", "") in COPIES
            name = node.targets[0].id
            created[name] = created.get(name, True) and fresh
    def is_own(node):
        return isinstance(node, ast.Name) and created.get(node.id, False)
    for node in ast.walk(function):
        if isinstance(node, ast.Attribute) and not isinstance(node.ctx, ast.Load) and function.name != "__init__":
            yield node.lineno
        if isinstance(node, ast.Subscript) and not isinstance(node.ctx, ast.Load) and not is_own(node.value):
            yield node.lineno
        if isinstance(node, ast.Call) and isinstance(node.func, ast.Attribute) and node.func.attr in MUTATORS:
            if not is_own(node.func.value):
                yield node.lineno
        if isinstance(node, (ast.Yield, ast.YieldFrom, ast.AugAssign)):
            yield node.lineno


class FileCheck:
    """The complaints about one file."""

    def __init__(self, name, text, package):
        self.name, self.package, self.found = name, package, []
        self.tree = package.trees[name]
        for node in ast.walk(self.tree):
            for child in ast.iter_child_nodes(node):
                child.parent = node
        self.check_text(text)
        self.check_top()
        self.imported = {alias.name for node in self.tree.body if isinstance(node, ast.ImportFrom) for alias in node.names}
        for node in ast.walk(self.tree):
            check = getattr(self, "check_" + type(node).__name__.lower(), None)
            if check is not None:
                check(node)
            self.check_bound(node)

    def complain(self, node, rule):
        self.found.append(f"{self.name}:{getattr(node, 'lineno', node)} {rule}")

    def check_text(self, text):
        lines = text.split("\n")
        if len(lines) > 400 or not re.fullmatch(r"(__init__|[a-z][a-z0-9_]*)\.py", self.name):
            self.complain(1, "L10, L1 file")
        for number, line in enumerate(lines, 1):
            if len(line) > 120 or "\t" in line or not all(" " <= character <= "~" for character in line):
                self.complain(number, "L10, L14 line")
            code = line.split("#")[0]
            if BANNED_WORDS.search(code) and '"""' not in line:
                self.complain(number, "L17 word")

    def check_top(self):
        imports_over = False
        for index, node in enumerate(self.tree.body):
            if isinstance(node, ast.Expr) and index == 0 and isinstance(node.value, ast.Constant):
                continue
            if isinstance(node, ast.ImportFrom):
                if imports_over:
                    self.complain(node, "L2 import behind code")
                continue
            imports_over = True
            if isinstance(node, ast.Assign) and len(node.targets) == 1 and isinstance(node.targets[0], ast.Name):
                functions = [part for part in ast.walk(node.value) if isinstance(part, ast.Name)]
                allowed = self.package.functions.keys() | {"True", "False", "None"}
                plain = ast.unparse(node.value)
                for part in functions:
                    plain = re.sub(rf"\b{part.id}\b(?=[,}}])", "0", plain) if part.id in allowed else plain
                try:
                    ast.literal_eval(plain)
                except ValueError:
                    self.complain(node, "L3 value")
            elif not isinstance(node, (ast.FunctionDef, ast.ClassDef)):
                self.complain(node, "L3 statement")

    def check_import(self, node):
        self.complain(node, "L16 import")

    def check_importfrom(self, node):
        names = {alias.name for alias in node.names}
        if any(alias.asname for alias in node.names) or node.level:
            self.complain(node, "L2 as")
        if node.module in LIBRARY:
            if not names <= LIBRARY[node.module]:
                self.complain(node, "L2 library")
            return
        file = node.module.split(".")[-1] + ".py"
        if not node.module.startswith("leastlog.") or not names <= self.package.defined.get(file, set()):
            self.complain(node, "L16 from another file")
        text = ast.unparse([part for part in self.tree.body if not isinstance(part, ast.ImportFrom)])
        for name in names:
            if not re.search(rf"\b{name}\b", text):
                self.complain(node, f"unused import {name}")

    def check_functiondef(self, node):
        if node.end_lineno - node.lineno + 1 + len(node.decorator_list) > 40:
            self.complain(node, "L10 function")
        inside = isinstance(node.parent, ast.ClassDef)
        if not inside and not isinstance(node.parent, ast.Module):
            self.complain(node, "nested function")
        if node.name.startswith("__") and (not inside or node.name not in DUNDERS):
            self.complain(node, "L5 method")
        for mark in node.decorator_list:
            setter = isinstance(mark, ast.Attribute) and mark.attr == "setter" and mark.value.id == node.name
            if not inside or not setter and getattr(mark, "id", "") not in ("property", "classmethod", "staticmethod"):
                self.complain(node, "L4 decorator")
        for default in [*node.args.defaults, *filter(None, node.args.kw_defaults)]:
            if not isinstance(default, (ast.Constant, ast.Tuple, ast.UnaryOp, ast.Name)):
                self.complain(node, "L4 default")
        if node.name == "__init__" and any(isinstance(part, ast.Return) for part in ast.walk(node)):
            self.complain(node, "L28 return of __init__")
        if node.name in ("__str__", "__repr__", "__len__") and not isinstance(node.body[-1], ast.Return):
            self.complain(node, "L28 last statement")
        for part in ast.walk(node):
            if isinstance(part, ast.Return) and node.name in ("__str__", "__repr__", "__len__"):
                called = getattr(getattr(part.value, "func", None), "id", "")
                if called not in ("str", "repr", "len") and not isinstance(part.value, (ast.JoinedStr, ast.Constant)):
                    self.complain(part, "L28 return")
            if isinstance(part, (ast.Assign, ast.AugAssign)) and node.name in ("__eq__", "__str__", "__repr__", "__len__") \
                    and not isinstance(part.targets[0], ast.Name):
                self.complain(part, "L28 assignment")

    def check_classdef(self, node):
        if node.decorator_list or node.keywords or len(node.bases) > 1:
            self.complain(node, "L5 class")
        names = [part.name for part in node.body if isinstance(part, ast.FunctionDef) and not is_setter(part)]
        if len(names) != len(set(names)):
            self.complain(node, "L18 method twice")

    def check_bound(self, node):
        """No name is one that means something else."""
        names = []
        if isinstance(node, ast.Name) and isinstance(node.ctx, ast.Store):
            names = [node.id]
        elif isinstance(node, ast.arg):
            names = [node.arg]
        elif isinstance(node, ast.ExceptHandler) and node.name:
            names = [node.name]
        elif isinstance(node, (ast.FunctionDef, ast.ClassDef)):
            names = [node.name]
        for name in names:
            method = isinstance(node, ast.FunctionDef) and isinstance(node.parent, ast.ClassDef)
            if name in BANNED_NAMES or name.startswith(BANNED_PREFIXES) or not re.fullmatch(r"_?[A-Za-z][A-Za-z0-9_]*|_|__[a-z]+__", name):
                self.complain(node, f"L12, L17 name {name}")
            if not method and hasattr(builtins, name) or name in ALLOWED_BUILTINS:
                self.complain(node, f"L8, L15 name {name}")
            local = not isinstance(node, (ast.FunctionDef, ast.ClassDef)) and not isinstance(node.parent.parent, ast.Module)
            classes = {part.name for part in self.tree.body if isinstance(part, ast.ClassDef)}
            if local and name in self.imported | classes:
                self.complain(node, f"L15 name {name}")

    def check_name(self, node):
        if isinstance(node.ctx, ast.Load) and node.id == "super":
            self.check_super(node)
        elif isinstance(node.ctx, ast.Load) and hasattr(builtins, node.id):
            decorator = node.id in ("property", "classmethod", "staticmethod")
            if node.id not in ALLOWED_BUILTINS and not decorator:
                self.complain(node, f"L8 {node.id}")
        if node.id == "_" and isinstance(node.ctx, ast.Load):
            self.complain(node, "L12 _ is read")

    def check_super(self, node):
        """super() is called at once, and so is a plain method of it, directly in a method."""
        made, read = node.parent, node.parent.parent
        right = isinstance(made, ast.Call) and not made.args and isinstance(read, ast.Attribute)
        right = right and isinstance(read.parent, ast.Call) and read.parent.func is read and read.attr not in DUNDERS
        above = read
        while not isinstance(above, (ast.FunctionDef, ast.ListComp, ast.DictComp)):
            above = above.parent
        if not right or not isinstance(above, ast.FunctionDef) or not isinstance(above.parent, ast.ClassDef):
            self.complain(node, "L5 super")

    def check_attribute(self, node):
        if not isinstance(node.ctx, ast.Load) and (node.attr in BANNED_ATTRIBUTES or node.attr in BANNED_NAMES):
            self.complain(node, f"L26 attribute {node.attr}")
        called = isinstance(node.parent, ast.Call) and node.parent.func is node
        stored = set().union(*self.package.attributes.values(), self.package.properties)
        values = {target.id for one in self.package.classes.values() for part in one.body if isinstance(part, ast.Assign)
                  for target in part.targets}
        if called and node.attr not in ALLOWED_METHODS and node.attr not in self.package.methods:
            self.complain(node, f"L25 method {node.attr}")
        decorator = node.attr == "setter" and isinstance(node.parent, ast.FunctionDef)
        if not called and not decorator and node.attr not in stored | values | {"__class__", "__name__"}:
            self.complain(node, f"L18 attribute {node.attr}")
        if called and node.attr == "__init__":
            function = node.parent
            while not isinstance(function, ast.FunctionDef):
                function = function.parent
            bases = [getattr(base, "id", "") for base in function.parent.bases]
            if function.name != "__init__" or getattr(node.value, "id", "") not in bases:
                self.complain(node, "L28 __init__")
        elif called and getattr(node.value, "id", "") in self.package.classes:
            static = [row for row in self.package.methods.get(node.attr, []) if row[2].decorator_list]
            if not static:
                self.complain(node, "L18 method read off a class")

    def check_call(self, node):
        name = getattr(node.func, "id", getattr(node.func, "attr", ""))
        builtin = isinstance(node.func, ast.Name) and name in ALLOWED_BUILTINS
        keywords = {keyword.arg for keyword in node.keywords}
        if builtin and not keywords <= {"default"} or not builtin and name in ALLOWED_METHODS and keywords:
            self.complain(node, "L22, L25 keyword")
        for part in node.args:
            if isinstance(part, ast.Starred) and not isinstance(part.value, (ast.Name, ast.Attribute)):
                self.complain(node, "L7 star")
        if name in VIEWS and (builtin or isinstance(node.func, ast.Attribute)):
            above = node.parent
            at_once = isinstance(above, (ast.For, ast.comprehension)) and above.iter is node
            at_once = at_once or isinstance(above, ast.Call) and getattr(above.func, "id", "") in CONSUMERS and above.args[0] is node
            at_once = at_once or isinstance(above, ast.Compare) and name == "range"
            if not at_once:
                self.complain(node, f"L23 {name}")

    def check_subscript(self, node):
        if any(isinstance(part, ast.Starred) for part in ast.walk(node.slice)):
            self.complain(node, "L7 star in an index")

    def check_for(self, node):
        self.check_loop(node.iter, node.body)

    def check_loop(self, over, body):
        """What a loop goes over is not changed in it."""
        if isinstance(over, ast.Call) and getattr(over.func, "id", "") in ("enumerate", "zip", "reversed"):
            for part in over.args:
                self.check_loop(part, body)
            return
        if isinstance(over, ast.Call) and getattr(over.func, "attr", "") in ("items", "keys", "values"):
            over = over.func.value
        text = ast.unparse(over)
        for part in [inner for statement in body for inner in ast.walk(statement)]:
            changed = None
            if isinstance(part, ast.Subscript) and not isinstance(part.ctx, ast.Load):
                changed = part.value
            if isinstance(part, ast.Call) and getattr(part.func, "attr", "") in MUTATORS:
                changed = part.func.value
            if changed is not None and ast.unparse(changed) == text:
                self.complain(part, "L23 changes what the loop goes over")

    def check_compare(self, node):
        for operator, other in zip(node.ops, node.comparators):
            plain = isinstance(other, ast.Constant) and (other.value is None or isinstance(other.value, bool))
            if isinstance(operator, (ast.Is, ast.IsNot)) and not plain:
                self.complain(node, "L20 is")

    def check_constant(self, node):
        if isinstance(node.value, (float, complex, bytes)) or isinstance(node.value, str) and "%" in node.value:
            self.complain(node, "L7, L27 literal")
        if isinstance(node.value, str) and re.search(r"[^ -~\n]|\._$|^__.*__$", node.value):
            self.complain(node, "L27 string")

    def check_binop(self, node):
        if isinstance(node.op, (ast.Div, ast.Pow, ast.MatMult)):
            self.complain(node, "L7, L27 operator")

    def check_joinedstr(self, node):
        for part in ast.walk(node):
            if isinstance(part, ast.FormattedValue):
                inner = [one for one in ast.walk(part.value) if isinstance(one, (ast.JoinedStr, ast.Constant)) and one is not node]
                if any(isinstance(one, ast.JoinedStr) or isinstance(one.value, str) for one in inner):
                    self.complain(node, "L27 string in an f-string")

    def check_excepthandler(self, node):
        caught = node.type.elts if isinstance(node.type, ast.Tuple) else [node.type]
        if not caught or any(not isinstance(one, ast.Name) or one.id not in self.package.classes for one in caught):
            self.complain(node, "L19 handler")

    def check_raise(self, node):
        made = node.exc
        if not isinstance(made, ast.Call) or not isinstance(made.func, ast.Name):
            self.complain(node, "L19 raise")

    def refuse(self, node):
        self.complain(node, f"refused: {type(node).__name__}")

    check_lambda = check_generatorexp = check_set = check_setcomp = check_global = check_nonlocal = refuse
    check_asyncfunctiondef = check_await = check_namedexpr = check_match = check_with = check_assert = refuse
