"""Checks of the package's form that can be seen in its text: a part of shared/LANGUAGE.md, rule by rule.

It prints a line for each breach and ends with 1 if there is one.
"""

import ast
import builtins
import pathlib
import sys
import warnings

ROOT = pathlib.Path(__file__).resolve().parent.parent
NAME = "cutworths"
LIBRARY = {
    "heapq": "heappush heappop heapify heapreplace heappushpop",
    "math": "gcd lcm isqrt comb perm factorial",
    "itertools": "product combinations permutations chain accumulate pairwise islice zip_longest",
    "collections": "defaultdict",
}
BUILTINS = set(
    "len range enumerate zip min max sum abs sorted reversed int str bool bytes list tuple dict set frozenset "
    "isinstance ord repr any all divmod pow getattr hasattr setattr iter next map property staticmethod classmethod "
    "super object float Exception ValueError TypeError KeyError IndexError LookupError ZeroDivisionError "
    "ArithmeticError OverflowError RuntimeError NotImplementedError AttributeError StopIteration NotImplemented".split())
ALL_BUILTINS = set(name for name in dir(builtins) if not name.startswith("_"))
METHODS = set(
    "append clear copy count endswith extend find get index insert isalnum isalpha isdigit islower isspace isupper "
    "items join keys ljust lower lstrip partition pop remove replace reverse rfind rjust rpartition rsplit rstrip "
    "setdefault split splitlines startswith strip update upper values zfill bit_length title capitalize swapcase "
    "casefold center expandtabs removeprefix removesuffix rindex isascii isdecimal isnumeric istitle isidentifier "
    "isprintable translate add discard format".split())
UNDERSCORED = set(
    "__init__ __eq__ __repr__ __str__ __len__ __enter__ __exit__ __call__ __iter__ __lt__ __le__ __gt__ __ge__ __ne__ "
    "__bool__ __contains__ __getitem__ __setitem__".split())
BARRED_NAMES = set(
    "register mro elements open input law version_info with_traceback add_note attrgetter breakpoint builtins compile "
    "copyright credits delattr dir eval exec exit gc globals help id importlib license locals methodcaller os quit "
    "type vars sys".split())
BARRED_WORDS = set(
    "typing typing_extensions enum Enum IntEnum StrEnum Flag IntFlag Generic Protocol ABC ABCMeta namedtuple "
    "NamedTuple TypedDict TYPE_CHECKING abstractmethod".split())
BARRED_NODES = (ast.Import, ast.Global, ast.AsyncFunctionDef, ast.AsyncFor, ast.AsyncWith, ast.Await, ast.Div)
AT_ONCE = set("any all min max sum sorted".split())
VIEWS = set("range zip enumerate reversed".split())
VIEW_TAKERS = AT_ONCE | set("list tuple dict enumerate zip reversed len".split())
GROWERS = set("extend update".split())
# Calls that give what they are passed piece by piece, or a piece of it.
PIECEWISE = set("zip enumerate reversed map iter next min max chain accumulate pairwise islice zip_longest".split())
PIECES = set("items keys values get setdefault pop from_iterable".split())


def names_in(target):
    return [node.id for node in ast.walk(target) if isinstance(node, ast.Name) and isinstance(node.ctx, ast.Store)]


def without_items(path):
    while path[-1] == "[]":
        path = path[:-1]
    return path


def lies_in(one, other):
    """Whether what one path leads to may lie in what the other one leads to, whatever the indexes are."""
    base = without_items(one)
    return other[:len(base)] == base


class Paths:
    """What the expressions of a function may lead to: ("self", ".rows", "[]") is any item of self.rows."""

    def __init__(self, function, generators):
        self.generators = generators
        # For each local name the expressions that it is assigned, or an item of which it is assigned.
        self.sources = {}
        for node in ast.walk(function):
            if isinstance(node, ast.Assign):
                for target in node.targets:
                    self.note_source(target, node.value)
            elif isinstance(node, (ast.AnnAssign, ast.NamedExpr)):
                self.note_source(node.target, node.value)
            elif isinstance(node, (ast.For, ast.comprehension)):
                self.note_items(node.target, node.iter)

    def note_source(self, target, value):
        many = (ast.Tuple, ast.List)
        if isinstance(target, ast.Name):
            self.sources.setdefault(target.id, []).append((self.handed_paths, value))
        elif isinstance(target, many) and isinstance(value, many) and len(target.elts) == len(value.elts):
            for inner, item in zip(target.elts, value.elts):
                self.note_source(inner, item)
        else:
            self.note_items(target, value)

    def note_items(self, target, value):
        for name in names_in(target):
            self.sources.setdefault(name, []).append((self.paths_of, value))

    def paths_of(self, node, met=()):
        if isinstance(node, ast.Name):
            sources = [] if node.id in met else self.sources.get(node.id, [])
            return [(node.id,)] + [path for follow, value in sources for path in follow(value, met + (node.id,))]
        if isinstance(node, ast.Attribute):
            return [path + ("." + node.attr,) for path in self.paths_of(node.value, met)]
        if isinstance(node, ast.Subscript):
            return [path + ("[]",) for path in self.paths_of(node.value, met)]
        if isinstance(node, (ast.IfExp, ast.BoolOp)):
            parts = node.values if isinstance(node, ast.BoolOp) else [node.body, node.orelse]
        elif isinstance(node, (ast.NamedExpr, ast.Starred)):
            parts = [node.value]
        elif isinstance(node, ast.GeneratorExp):
            parts = [part.iter for part in node.generators]
        else:
            parts = self.parts_of_call(node) if isinstance(node, ast.Call) else []
        return [path for part in parts for path in self.handed_paths(part, met)]

    def handed_paths(self, node, met=()):
        """The same, but a slice is a list of its own."""
        copied = isinstance(node, ast.Subscript) and isinstance(node.slice, ast.Slice)
        return [] if copied else self.paths_of(node, met)

    def parts_of_call(self, node):
        if isinstance(node.func, ast.Name):
            return node.args if node.func.id in PIECEWISE | self.generators else []
        if not isinstance(node.func, ast.Attribute) or node.func.attr not in PIECES | self.generators:
            return []
        return [node.func.value] + node.args


class Checker:
    """What is known of the whole package, and the breaches found."""

    def __init__(self, folder):
        self.folder = folder
        self.paths = sorted(path for path in folder.iterdir() if path.name != "__pycache__")
        self.texts = {path.stem: path.read_text(encoding="utf-8") for path in self.paths if path.suffix == ".py"}
        with warnings.catch_warnings():
            # A line for which Python gives a warning is a breach of L27, told here as Python's own error.
            warnings.simplefilter("error")
            self.trees = {stem: ast.parse(text) for stem, text in self.texts.items()}
            for stem, tree in self.trees.items():
                compile(tree, f"{NAME}/{stem}.py", "exec")
        self.functions = [node for tree in self.trees.values() for node in ast.walk(tree)
                          if isinstance(node, ast.FunctionDef)]
        self.own_methods = {node.name for node in self.functions}
        self.generators = {node.name for node in self.functions
                           if any(isinstance(inner, (ast.Yield, ast.YieldFrom)) for inner in ast.walk(node))}
        self.breaches = []

    def tell(self, rule, stem, node, why):
        breach = f"{rule} {NAME}/{stem}.py:{getattr(node, 'lineno', node)}: {why}"
        # A nested function is seen by itself and in the one around it.
        if breach not in self.breaches:
            self.breaches.append(breach)

    def check_all(self):
        for path in self.paths:
            if path.suffix != ".py" or not path.stem.replace("_", "").isalnum() or path.stem != path.stem.lower():
                self.tell("L1", path.name, 0, "the folder holds .py files with plain names alone")
        for stem, text in self.texts.items():
            self.check_text(stem, text)
            self.check_top(stem)
            for node in ast.walk(self.trees[stem]):
                self.check_node(stem, node)
        self.check_rings()
        self.check_members()
        return self.breaches

    def check_text(self, stem, text):
        lines = text.split("\n")
        if len(lines) > 400:
            self.tell("L10", stem, len(lines), "a file has at most 399 lines")
        for at, line in enumerate(lines, 1):
            if len(line) > 120:
                self.tell("L10", stem, at, "a line has at most 120 characters")
            if not all(" " <= letter <= "~" for letter in line):
                self.tell("L14", stem, at, "every character is one from the space to ~")

    def check_top(self, stem):
        bound = []
        for node in self.trees[stem].body:
            if isinstance(node, ast.ImportFrom):
                self.check_import(stem, node)
                bound.extend(alias.asname or alias.name for alias in node.names)
            elif isinstance(node, (ast.FunctionDef, ast.ClassDef)):
                bound.append(node.name)
            elif isinstance(node, ast.Assign) and isinstance(node.targets[0], ast.Name):
                bound.append(node.targets[0].id)
            elif not (isinstance(node, ast.Expr) and isinstance(node.value, ast.Constant)):
                self.tell("L3", stem, node, "this does not stand at module level")
        for name in sorted(set(bound)):
            if bound.count(name) > 1:
                self.tell("L15", stem, 0, f"{name} is bound twice")
        taken = {node.name for node in self.trees[stem].body if isinstance(node, ast.ClassDef)}
        for node in self.trees[stem].body:
            if isinstance(node, ast.ImportFrom):
                taken.update(alias.name for alias in node.names)
        for node in ast.walk(self.trees[stem]):
            name = node.arg if isinstance(node, ast.arg) else None
            if isinstance(node, ast.Name) and not isinstance(node.ctx, ast.Load):
                name = node.id
            if name in taken:
                self.tell("L15", stem, node, f"{name} is a class or an import of this file")
        used = {node.id for node in ast.walk(self.trees[stem]) if isinstance(node, ast.Name)}
        for node in self.trees[stem].body:
            if isinstance(node, ast.ImportFrom) and stem != "__init__":
                for alias in node.names:
                    if alias.name not in used:
                        self.tell("L16", stem, node, f"{alias.name} is imported and not used")

    def check_import(self, stem, node):
        if node.module in LIBRARY:
            if not all(alias.name in LIBRARY[node.module].split() and not alias.asname for alias in node.names):
                self.tell("L2", stem, node, "this word of the library is not used")
            return
        words = (node.module or "").split(".")
        if node.level or len(words) != 2 or words[0] != NAME or words[1] not in self.trees:
            self.tell("L2", stem, node, "imports come from files of the package")
            return
        defined = [item.name for item in self.trees[words[1]].body if isinstance(item, (ast.FunctionDef, ast.ClassDef))]
        defined += [item.targets[0].id for item in self.trees[words[1]].body if isinstance(item, ast.Assign)]
        for alias in node.names:
            if alias.name not in defined:
                self.tell("L16", stem, node, f"{alias.name} is not defined in {node.module}")

    def check_rings(self):
        needs = {stem: [node.module.split(".")[1] for node in tree.body
                        if isinstance(node, ast.ImportFrom) and node.module.startswith(NAME + ".")]
                 for stem, tree in self.trees.items()}
        for stem in needs:
            reached, waiting = set(), list(needs[stem])
            while waiting:
                other = waiting.pop()
                if other not in reached:
                    reached.add(other)
                    waiting.extend(needs[other])
            if stem in reached:
                self.tell("L16", stem, 0, "files import from each other in a ring")

    def check_members(self):
        """Names of methods and attributes over the whole package."""
        stored, read = {}, {}
        for stem, tree in self.trees.items():
            for node in ast.walk(tree):
                if isinstance(node, ast.Attribute):
                    (read if isinstance(node.ctx, ast.Load) else stored).setdefault(node.attr, (stem, node))
        decorated = [node for node in self.functions if node.decorator_list]
        for node in self.functions:
            if node.name in stored:
                stem, place = stored[node.name]
                self.tell("L18", stem, place, f"{node.name} is a method or function, too")
        for node in decorated:
            plain = [other for other in self.functions if other.name == node.name and not other.decorator_list]
            methods = [item for tree in self.trees.values() for made in ast.walk(tree)
                       if isinstance(made, ast.ClassDef) for item in made.body]
            if any(other in methods for other in plain):
                self.tell("L5", "", node, f"{node.name} is a plain method, too")
        for name, (stem, node) in read.items():
            if name not in stored and name not in METHODS and name not in self.own_methods:
                self.tell("L18", stem, node, f"{name} is assigned by no class")

    def check_node(self, stem, node):
        if isinstance(node, BARRED_NODES):
            self.tell("L6", stem, node, f"{type(node).__name__} is not used")
        if isinstance(node, ast.FunctionDef):
            self.check_function(stem, node)
        if isinstance(node, ast.ClassDef) and (node.decorator_list or node.name.startswith("_")):
            self.tell("L5", stem, node, "a class has no decorator, and its name begins with a letter")
        if isinstance(node, ast.Constant):
            self.check_constant(stem, node)
        if isinstance(node, ast.Call):
            self.check_call(stem, node)
        if isinstance(node, ast.Name):
            self.check_name(stem, node)
        if isinstance(node, ast.arg) and (node.arg in ALL_BUILTINS or node.arg in BARRED_NAMES):
            self.tell("L15", stem, node, f"{node.arg} is no name for a parameter")
        if isinstance(node, (ast.For, ast.comprehension)) and self.is_set(node.iter):
            self.tell("L24", stem, node.iter, "a set is not iterated")
        if isinstance(node, ast.Raise) and node.exc is not None:
            if not (isinstance(node.exc, ast.Call) and isinstance(node.exc.func, ast.Name)):
                self.tell("L19", stem, node, "raise creates its error on the spot")
        if isinstance(node, ast.ExceptHandler) and node.type is None:
            self.tell("L6", stem, node, "except names its errors")
        if isinstance(node, ast.BinOp) and isinstance(node.op, ast.Pow) and not isinstance(node.right, ast.Constant):
            self.tell("L27", stem, node, "an exponent is a literal")

    def is_set(self, node):
        return isinstance(node, (ast.Set, ast.SetComp)) or (
            isinstance(node, ast.Call) and isinstance(node.func, ast.Name) and node.func.id in ("set", "frozenset"))

    def check_function(self, stem, node):
        if node.end_lineno - node.lineno + 1 > 40:
            self.tell("L10", stem, node, "a function has at most 40 lines")
        for decorator in node.decorator_list:
            if not (isinstance(decorator, ast.Name) and decorator.id in ("property", "staticmethod", "classmethod")
                    or isinstance(decorator, ast.Attribute) and decorator.attr == "setter"):
                self.tell("L4", stem, decorator, "this decorator is not used")
        if node.name.startswith("__") and node.name not in UNDERSCORED:
            self.tell("L5", stem, node, f"{node.name} is not defined")
        if node.name in ALL_BUILTINS or node.name in BARRED_NAMES:
            self.tell("L15", stem, node, f"{node.name} is no name for a function")
        self.check_growing(stem, node)
        if node.name in self.generators:
            if sum(other.name == node.name for other in self.functions) > 1:
                self.tell("L23", stem, node, "no other function has a generator's name")

    def check_growing(self, stem, function):
        """What extend, update, += and |= are handed is neither what they change nor lies in it."""
        paths = Paths(function, self.generators)
        for node in ast.walk(function):
            if isinstance(node, ast.AugAssign) and isinstance(node.op, (ast.Add, ast.BitOr)):
                changed, handed = node.target, [node.value]
            elif isinstance(node, ast.Call) and isinstance(node.func, ast.Attribute) and node.func.attr in GROWERS:
                changed, handed = node.func.value, node.args
            else:
                continue
            changed_paths = paths.paths_of(changed)
            handed_paths = [path for part in handed for path in paths.handed_paths(part)]
            if any(lies_in(one, other) or lies_in(other, one) for one in changed_paths for other in handed_paths):
                self.tell("L5", stem, node, "what is changed here is handed over, or an item of it")

    def check_constant(self, stem, node):
        if isinstance(node.value, (float, complex)):
            self.tell("L7", stem, node, "no float")
        if isinstance(node.value, str):
            words = set("".join(c if c.isalnum() or c == "_" else " " for c in node.value).split())
            if "%" in node.value or words & BARRED_WORDS:
                self.tell("L27", stem, node, "a word or sign that stands in no string")

    def check_call(self, stem, node):
        name = node.func.id if isinstance(node.func, ast.Name) else None
        if isinstance(node.func, ast.Attribute) and node.func.attr not in METHODS | self.own_methods:
            self.tell("L25", stem, node, f"the method {node.func.attr} is not used")
        if name == "sorted" and node.keywords and self.is_set(node.args[0]):
            self.tell("L24", stem, node, "a set is sorted without keywords")
        for argument in node.args:
            if name in AT_ONCE and isinstance(argument, ast.GeneratorExp):
                self.tell("L7", stem, node, f"{name} takes a list")
            if isinstance(argument, ast.Call) and isinstance(argument.func, ast.Name):
                if argument.func.id in VIEWS and name not in VIEW_TAKERS:
                    self.tell("L23", stem, node, f"{argument.func.id} is iterated on the spot")

    def check_name(self, stem, node):
        if isinstance(node.ctx, ast.Load):
            if node.id in ALL_BUILTINS and node.id not in BUILTINS:
                self.tell("L8", stem, node, f"{node.id} is not used")
        elif node.id in ALL_BUILTINS or node.id in BARRED_NAMES:
            self.tell("L15", stem, node, f"{node.id} is no name for a variable")


def main():
    breaches = Checker(ROOT / NAME).check_all()
    for breach in breaches:
        print(breach)
    return 1 if breaches else 0


if __name__ == "__main__":
    sys.exit(main())
