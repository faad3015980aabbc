"""A look at the package's own files by the rules L1 to L28, as far as a reader of syntax trees sees them."""

import ast
import builtins
import re

PACKAGE = "webshapes"
OWN_CALLS = (
    "len range enumerate zip min max sum abs sorted reversed int str bool list tuple dict set frozenset isinstance "
    "ord repr any all divmod"
).split()
ERROR_CLASSES = (
    "Exception ValueError TypeError KeyError IndexError LookupError ZeroDivisionError ArithmeticError OverflowError "
    "RuntimeError NotImplementedError AttributeError StopIteration"
).split()
METHODS = (
    "append clear copy count endswith extend find get index insert isalnum isalpha isdigit islower isspace isupper "
    "items join keys ljust lower lstrip partition pop remove replace reverse rfind rjust rpartition rsplit rstrip "
    "setdefault split splitlines startswith strip update upper values zfill bit_length"
).split()
CHANGES = "append clear extend insert pop remove reverse setdefault update".split()
DUNDERS = "__init__ __eq__ __repr__ __str__ __len__".split()
BANNED_NAMES = (
    "register mro elements open input version_info with_traceback add_note format format_map attrgetter breakpoint "
    "builtins compile copyright credits delattr dir eval exec exit gc getattr globals hasattr help id importlib "
    "license locals methodcaller os quit setattr super type vars sys"
).split()
BANNED_WORDS = (
    "type typing typing_extensions enum Enum IntEnum StrEnum Flag IntFlag Generic Protocol ABC ABCMeta namedtuple "
    "NamedTuple TypedDict TYPE_CHECKING abstractmethod"
).split()
BANNED_PIECES = ("dataclass", "overload", "contextmanager")
STATEMENTS = (
    ast.Assign, ast.AugAssign, ast.If, ast.While, ast.For, ast.Return, ast.Break, ast.Continue, ast.Pass, ast.Raise,
    ast.Try, ast.Expr, ast.FunctionDef,
)
EXPRESSIONS = (
    ast.Constant, ast.List, ast.Tuple, ast.Dict, ast.Set, ast.BinOp, ast.UnaryOp, ast.Compare, ast.BoolOp, ast.IfExp,
    ast.Call, ast.Attribute, ast.Subscript, ast.Slice, ast.ListComp, ast.JoinedStr, ast.FormattedValue, ast.Name,
    ast.Lambda,
)
WALKED = ("zip", "enumerate", "reversed", "range")
WALKERS = "list tuple dict sorted sum any all enumerate zip min max join".split()


def own_class_things(trees):
    """The methods and the values of the package's classes."""
    methods, values = {}, {}
    for tree in trees.values():
        for node in ast.walk(tree):
            if isinstance(node, ast.ClassDef):
                for item in node.body:
                    if isinstance(item, ast.FunctionDef):
                        methods[item.name] = True
            if isinstance(node, ast.Attribute) and isinstance(node.ctx, ast.Store):
                values[node.attr] = True
    return methods, values


def top_names(tree):
    names = []
    for node in tree.body:
        if isinstance(node, (ast.FunctionDef, ast.ClassDef)):
            names.append(node.name)
        elif isinstance(node, ast.Assign):
            names.extend([target.id for target in node.targets if isinstance(target, ast.Name)])
        elif isinstance(node, ast.ImportFrom):
            names.extend([alias.asname or alias.name for alias in node.names])
    return names


class Look:
    def __init__(self, files):
        """files: a dict of file names in the package and their texts."""
        self.files = files
        self.trees = {name: ast.parse(text) for name, text in files.items()}
        self.methods, self.values = own_class_things(self.trees)
        self.faults = []

    def fault(self, name, node, rule, words):
        line = node if isinstance(node, int) else getattr(node, "lineno", 0)
        self.faults.append(f"{name}:{line}: {rule} {words}")

    def look(self):
        for name, tree in self.trees.items():
            self.look_at_text(name, self.files[name])
            self.look_at_top(name, tree)
            self.look_at_nodes(name, tree)
            self.look_at_names(name, tree)
        self.look_at_imports()
        for clash in sorted(set(self.methods) & set(self.values)):
            self.fault("package", 0, "L18", f"{clash} is a method and a value")
        return self.faults

    def look_at_text(self, name, text):
        if not re.fullmatch(r"[a-z0-9_]+\.py", name) or name.startswith(("test", "site", "conftest")):
            self.fault(name, 0, "L1", "the file's name")
        stem = name[:-3]
        if stem == "__init__":
            stem = "package"
        if stem in BANNED_WORDS or hasattr(builtins, stem):
            self.fault(name, 0, "L14", "the file's name")
        rows = text.split("\n")
        if len(rows) > 401:
            self.fault(name, 0, "L10", "the file is too long")
        for number, row in enumerate(rows, start=1):
            if len(row) > 120:
                self.fault(name, number, "L10", "the line is too long")
            if not re.fullmatch(r"[ -~]*", row):
                self.fault(name, number, "L14", "a sign out of bounds")
            for word in re.findall(r"[A-Za-z_]+", row):
                if word in BANNED_WORDS or any(piece in word for piece in BANNED_PIECES):
                    self.fault(name, number, "L17", f"the word {word}")

    def look_at_top(self, name, tree):
        names = top_names(tree)
        for twice in sorted(set([one for one in names if names.count(one) > 1])):
            self.fault(name, 0, "L15", f"{twice} is bound twice")
        for place, node in enumerate(tree.body):
            docstring = place == 0 and isinstance(node, ast.Expr) and isinstance(node.value, ast.Constant)
            if isinstance(node, ast.Assign):
                self.look_at_plain_value(name, node.value, 0)
            elif isinstance(node, ast.ClassDef):
                self.look_at_class(name, node)
            elif not docstring and not isinstance(node, (ast.ImportFrom, ast.FunctionDef)):
                self.fault(name, node, "L3", "at the top")

    def look_at_plain_value(self, name, value, depth):
        if isinstance(value, ast.Dict):
            inner = value.keys + value.values
        elif isinstance(value, (ast.List, ast.Tuple)):
            inner = value.elts
        else:
            signed = isinstance(value, ast.UnaryOp) and isinstance(value.op, ast.USub)
            if not isinstance(value.operand if signed else value, (ast.Constant, ast.Name)):
                self.fault(name, value, "L3", "no plain value")
            return
        if depth and not isinstance(value, ast.Tuple):
            self.fault(name, value, "L15", "a list or dict in a list or dict of the top")
        for item in inner:
            self.look_at_plain_value(name, item, depth + 1)

    def look_at_class(self, name, node):
        if len(node.bases) > 1 or node.keywords or node.decorator_list:
            self.fault(name, node, "L5", "bases or decorators")
        found = []
        for item in node.body:
            if isinstance(item, ast.FunctionDef):
                found.append(item.name)
                if item.name.startswith("_") and item.name not in DUNDERS:
                    self.fault(name, item, "L5", item.name)
            elif not isinstance(item, ast.Pass):
                self.fault(name, item, "L5", "a value in a class")
        if len(found) != len(set(found)):
            self.fault(name, node, "L18", "a method stands twice")

    def look_at_nodes(self, name, tree):
        parents = {}
        for node in ast.walk(tree):
            for child in ast.iter_child_nodes(node):
                parents[child] = node
        for node in ast.walk(tree):
            if isinstance(node, ast.stmt) and not isinstance(node, (ast.ImportFrom, ast.ClassDef)):
                self.look_at_statement(name, node, parents[node])
            if isinstance(node, ast.expr):
                self.look_at_expression(name, node, parents)

    def look_at_statement(self, name, node, parent):
        if not isinstance(node, STATEMENTS):
            self.fault(name, node, "L6", node.__class__.__name__)
        if isinstance(node, ast.Assign) and len(node.targets) != 1:
            self.fault(name, node, "L6", "several targets")
        if isinstance(node, (ast.For, ast.While)) and node.orelse:
            self.fault(name, node, "L6", "else behind a loop")
        if isinstance(node, ast.Try) and node.finalbody:
            self.fault(name, node, "L6", "finally")
        if isinstance(node, ast.Expr) and not isinstance(node.value, ast.Call) and not isinstance(parent, ast.Module):
            self.fault(name, node, "L6", "a value by itself")
        if isinstance(node, ast.FunctionDef):
            self.look_at_def(name, node)
        if isinstance(node, ast.For):
            self.look_at_for(name, node)

    def look_at_def(self, name, node):
        args = node.args
        if args.vararg or args.kwarg or args.kwonlyargs or args.posonlyargs or node.decorator_list:
            self.fault(name, node, "L4", "parameters or decorators")
        if node.end_lineno - node.lineno + 1 > 40:
            self.fault(name, node, "L10", "the function is too long")
        if node.returns or [arg for arg in args.args if arg.annotation]:
            self.fault(name, node, "L21", "an annotation")

    def look_at_for(self, name, node):
        walked = {ast.dump(part) for part in ast.walk(node.iter) if isinstance(part, (ast.Name, ast.Attribute))}
        for part in ast.walk(node):
            changed = None
            if isinstance(part, ast.Call) and isinstance(part.func, ast.Attribute) and part.func.attr in CHANGES:
                changed = part.func.value
            if isinstance(part, ast.Subscript) and isinstance(part.ctx, ast.Store):
                changed = part.value
            if changed is not None and ast.dump(changed) in walked:
                self.fault(name, part, "L23", "what is walked is changed")

    def look_at_expression(self, name, node, parents):
        parent = parents[node]
        if not isinstance(node, EXPRESSIONS):
            self.fault(name, node, "L7", node.__class__.__name__)
        if isinstance(node, ast.Constant):
            self.look_at_constant(name, node)
        if isinstance(node, ast.BinOp) and isinstance(node.op, ast.Div):
            self.fault(name, node, "L7", "/")
        if isinstance(node, ast.BinOp) and isinstance(node.op, ast.Pow):
            if not isinstance(node.right, ast.Constant) or not 0 <= node.right.value <= 64:
                self.fault(name, node, "L27", "**")
        if isinstance(node, ast.ListComp):
            if len(node.generators) != 1 or len(node.generators[0].ifs) > 1:
                self.fault(name, node, "L7", "a comprehension")
        if isinstance(node, ast.FormattedValue) and not isinstance(node.value, ast.Name):
            self.fault(name, node, "L7", "an f-string")
        if isinstance(node, ast.Compare) and [op for op in node.ops if isinstance(op, (ast.Is, ast.IsNot))]:
            beside = getattr(node.comparators[0], "value", 0)
            if len(node.ops) != 1 or not (beside is None or isinstance(beside, bool)):
                self.fault(name, node, "L20", "is")
        if isinstance(node, ast.Attribute):
            self.look_at_attribute(name, node, parent)
        if isinstance(node, ast.Call):
            self.look_at_call(name, node, parents)

    def look_at_constant(self, name, node):
        if node.value is not None and not isinstance(node.value, (int, str)):
            self.fault(name, node, "L7", "a value of another kind")
        if isinstance(node.value, str) and chr(37) in node.value:
            self.fault(name, node, "L27", "the sign in a text")

    def look_at_attribute(self, name, node, parent):
        if node.attr == "__init__" and isinstance(node.value, ast.Name):
            return
        known = node.attr in METHODS or node.attr in self.methods
        if isinstance(parent, ast.Call) and parent.func is node:
            if not known:
                self.fault(name, node, "L25", node.attr)
        elif node.attr not in self.values:
            self.fault(name, node, "L25", f"{node.attr} is no value")
        if node.attr in BANNED_NAMES:
            self.fault(name, node, "L17", node.attr)

    def look_at_call(self, name, node, parents):
        parent = parents[node]
        called = node.func.id if isinstance(node.func, ast.Name) else getattr(node.func, "attr", "")
        allowed = {"sorted": ("key", "reverse"), "min": ("key", "default"), "max": ("key", "default")}
        allowed.update({"sum": ("start",), "enumerate": ("start",), "zip": ("strict",)})
        for keyword in node.keywords:
            if called in OWN_CALLS + METHODS and keyword.arg not in allowed.get(called, ()):
                self.fault(name, node, "L22", "a keyword")
        on_the_spot = isinstance(parent, (ast.For, ast.comprehension))
        if isinstance(parent, ast.Call):
            outer = parent.func.id if isinstance(parent.func, ast.Name) else getattr(parent.func, "attr", "")
            on_the_spot = on_the_spot or outer in WALKERS
        if called in WALKED + ("items", "keys", "values") and not on_the_spot:
            self.fault(name, node, "L23", f"{called} is kept")
        if called == "set":
            beside = isinstance(parent, (ast.Compare, ast.BinOp))
            within = isinstance(parent, ast.Call) and getattr(parent.func, "id", "") in ("sorted", "len")
            if not beside and not within:
                self.fault(name, node, "L24", "a set is kept")

    def look_at_names(self, name, tree):
        top = top_names(tree)
        bound = set(top)
        for node in ast.walk(tree):
            if isinstance(node, ast.arg):
                bound.add(node.arg)
            if isinstance(node, ast.Name) and isinstance(node.ctx, ast.Store):
                bound.add(node.id)
            if isinstance(node, ast.FunctionDef):
                bound.add(node.name)
        for word in sorted(bound):
            plain = re.fullmatch(r"[A-Za-z][A-Za-z0-9_]*", word) or word in DUNDERS
            if not plain or word in BANNED_NAMES or hasattr(builtins, word) and word not in self.methods:
                self.fault(name, 0, "L12", f"the name {word}")
        self.look_at_shadows(name, tree)
        for node in ast.walk(tree):
            if isinstance(node, ast.Name) and isinstance(node.ctx, ast.Load):
                if node.id not in bound and node.id not in OWN_CALLS + ERROR_CLASSES:
                    self.fault(name, node, "L8", f"the name {node.id}")

    def look_at_shadows(self, name, tree):
        outer = set()
        for node in tree.body:
            if isinstance(node, ast.ClassDef):
                outer.add(node.name)
            if isinstance(node, ast.ImportFrom):
                outer.update([alias.name for alias in node.names])
        top = {target for node in tree.body if isinstance(node, ast.Assign) for target in node.targets}
        for node in ast.walk(tree):
            local = isinstance(node, ast.Name) and isinstance(node.ctx, ast.Store) and node not in top and node.id
            if isinstance(node, ast.arg):
                local = node.arg
            if local and (local in outer or hasattr(builtins, local)):
                self.fault(name, node, "L15", f"{local} is called like something else")

    def look_at_imports(self):
        drawn = {name: [] for name in self.trees}
        for name, tree in self.trees.items():
            for node in ast.walk(tree):
                if isinstance(node, ast.Import):
                    self.fault(name, node, "L16", "import")
                if isinstance(node, ast.ImportFrom):
                    self.look_at_import(name, node, node in tree.body, drawn)
        for name in drawn:
            reached, todo = set(), list(drawn[name])
            while todo:
                other = todo.pop()
                if other not in reached:
                    reached.add(other)
                    todo.extend(drawn.get(other, []))
            if name in reached:
                self.fault(name, 0, "L16", "files draw from one another")

    def look_at_import(self, name, node, at_top, drawn):
        module = node.module or ""
        other = module[len(PACKAGE) + 1:] + ".py"
        if node.level or not at_top or not module.startswith(PACKAGE + ".") or other not in self.trees:
            self.fault(name, node, "L2", "an import")
            return
        drawn[name].append(other)
        own = [item.name for item in self.trees[other].body if isinstance(item, (ast.FunctionDef, ast.ClassDef))]
        for item in self.trees[other].body:
            if isinstance(item, ast.Assign):
                own.append(item.targets[0].id)
        for alias in node.names:
            if alias.asname or alias.name not in own:
                self.fault(name, node, "L16", f"{alias.name} is defined elsewhere")


def faults_of(files):
    return Look(files).look()
