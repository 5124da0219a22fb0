"""The files of the package keep to the subset of Python that the project uses, as far as a look at the code shows it."""

import ast
import builtins
import io
import os
import re
import tokenize
import unittest

ROOT = os.path.dirname(os.path.dirname(os.path.abspath(__file__)))
PACKAGE = os.path.join(ROOT, "slotstars")
LIBRARY = {
    "heapq": {"heappush", "heappop", "heapify", "heapreplace", "heappushpop"},
    "math": {"gcd", "lcm", "isqrt", "comb", "perm", "factorial"},
    "itertools": {"product", "combinations", "permutations"},
}
BUILTINS = set("""len range enumerate zip min max sum abs sorted reversed int str bool bytes list tuple dict set
    isinstance ord repr any all divmod Exception ValueError TypeError KeyError IndexError LookupError
    ZeroDivisionError ArithmeticError OverflowError RuntimeError NotImplementedError AttributeError StopIteration
    NotImplemented iter next map super property staticmethod classmethod object float""".split())
METHODS = set("""append clear copy count endswith extend find get index insert isalnum isalpha isdigit islower isspace
    isupper items join keys ljust lower lstrip partition pop remove replace reverse rfind rjust rpartition rsplit rstrip
    setdefault split splitlines startswith strip update upper values zfill bit_length title capitalize swapcase
    casefold center expandtabs removeprefix removesuffix rindex isascii isdecimal isnumeric istitle isidentifier
    isprintable translate add discard sort""".split())
BARRED_NAMES = set("""register mro elements open input law version_info with_traceback add_note attrgetter breakpoint
    builtins compile copyright credits delattr dir eval exec exit gc getattr globals hasattr help id importlib license
    locals methodcaller os quit setattr type vars sys""".split())
BARRED_WORDS = """type typing typing_extensions enum Enum IntEnum StrEnum Flag IntFlag Generic Protocol ABC ABCMeta
    namedtuple NamedTuple TypedDict TYPE_CHECKING abstractmethod""".split()
AT_ONCE = {"list", "tuple", "dict", "sorted", "sum", "any", "all", "enumerate", "zip", "min", "max", "bytes"}
STATEMENTS = (
    ast.Assign, ast.AugAssign, ast.If, ast.While, ast.For, ast.Return, ast.Break, ast.Continue, ast.Pass, ast.Raise,
    ast.Assert, ast.Delete, ast.Nonlocal, ast.Match, ast.With, ast.Try, ast.Expr, ast.FunctionDef, ast.ClassDef,
    ast.ImportFrom,
)


def package_files():
    """Pairs of the name and the text of all files of the package."""
    files = []
    for folder, _, names in os.walk(PACKAGE):
        if os.path.basename(folder) == "__pycache__":
            continue
        for name in sorted(names):
            with open(os.path.join(folder, name), encoding="utf-8") as held:
                files.append((name, held.read()))
    return files


FILES = package_files()
TREES = [(name, ast.parse(text)) for name, text in FILES]


def parents_of(tree):
    """A dict that tells the parent of each node."""
    return {child: node for node in ast.walk(tree) for child in ast.iter_child_nodes(node)}


def functions_of(tree):
    """All functions and methods, nested ones too."""
    return [node for node in ast.walk(tree) if isinstance(node, ast.FunctionDef)]


def imported_names(tree):
    """All names that the imports of a file bind."""
    return {alias.name for node in tree.body if isinstance(node, ast.ImportFrom) for alias in node.names}


def bound_names(function):
    """All parameters and local variables of a function."""
    spec = function.args
    names = {arg.arg for arg in spec.posonlyargs + spec.args + spec.kwonlyargs}
    names |= {arg.arg for arg in (spec.vararg, spec.kwarg) if arg is not None}
    for node in ast.walk(function):
        if isinstance(node, ast.Name) and isinstance(node.ctx, ast.Store):
            names.add(node.id)
        if isinstance(node, ast.arg):
            names.add(node.arg)
    return names


def methods_of(node):
    """The methods of a class, without its docstring."""
    return [one for one in node.body if isinstance(one, ast.FunctionDef)]


def is_docstring(node, parents):
    """Whether a string is the docstring of its file, class or function."""
    holder = parents.get(node)
    home = parents.get(holder)
    return isinstance(holder, ast.Expr) and isinstance(home, (ast.Module, ast.FunctionDef, ast.ClassDef))


class LanguageTest(unittest.TestCase):
    def setUp(self):
        self.found = []

    def tearDown(self):
        self.assertEqual(self.found, [])

    def tell(self, rule, name, node, what):
        self.found.append((rule, name, getattr(node, "lineno", node), what))

    def test_files_and_lines(self):
        self.assertLessEqual(len(FILES), 100)
        for name, text in FILES:
            if not re.fullmatch(r"[a-z0-9_]+\.py", name):
                self.tell("L1", name, 0, "name")
            lines = text.split("\n")
            if len(lines) > 400:
                self.tell("L10", name, len(lines), "too many lines")
            for number, line in enumerate(lines, 1):
                if len(line) > 120 or not re.fullmatch("[ -~]*", line):
                    self.tell("L10", name, number, line)
                if re.search(r"_wall|_WallAttr", line):
                    self.tell("L12", name, number, line)

    def test_size_of_functions(self):
        for name, tree in TREES:
            for function in functions_of(tree):
                if function.end_lineno - function.lineno + 1 > 40:
                    self.tell("L10", name, function, function.name)
                decorators = [getattr(one, "id", None) for one in function.decorator_list]
                if decorators not in ([], ["property"]) or function.returns is not None:
                    self.tell("L4", name, function, function.name)
                for value in function.args.defaults + function.args.kw_defaults:
                    if not isinstance(value, (ast.Constant, ast.Tuple)):
                        self.tell("L4", name, function, function.name)

    def test_imports(self):
        defined = {
            name: {node.name for node in tree.body if isinstance(node, (ast.FunctionDef, ast.ClassDef))} | {
                node.targets[0].id for node in tree.body if isinstance(node, ast.Assign)
            } for name, tree in TREES
        }
        for name, tree in TREES:
            for node in ast.walk(tree):
                if isinstance(node, ast.Import):
                    self.tell("L2", name, node, "import")
                if not isinstance(node, ast.ImportFrom):
                    continue
                names = {alias.name for alias in node.names}
                if node not in tree.body or node.level or any(alias.asname for alias in node.names):
                    self.tell("L2", name, node, node.module)
                if node.module in LIBRARY:
                    if not names <= LIBRARY[node.module]:
                        self.tell("L2", name, node, sorted(names))
                elif not node.module.startswith("slotstars."):
                    self.tell("L2", name, node, node.module)
                elif not names <= defined[node.module.split(".")[1] + ".py"]:
                    self.tell("L16", name, node, sorted(names))

    def test_no_circles_of_imports(self):
        needs = {
            name[:-3]: [node.module.split(".")[1] for node in tree.body
                        if isinstance(node, ast.ImportFrom) and node.module.startswith("slotstars.")]
            for name, tree in TREES
        }
        done = set()
        while True:
            ready = {name for name in needs if name not in done and set(needs[name]) <= done}
            if not ready:
                break
            done |= ready
        self.assertEqual(set(needs) - done, set())

    def test_used_imports(self):
        for name, tree in TREES:
            used = {node.id for node in ast.walk(tree) if isinstance(node, ast.Name)}
            for unused in imported_names(tree) - used:
                self.tell("unused", name, 0, unused)

    def test_library_names_are_only_called(self):
        for name, tree in TREES:
            parents = parents_of(tree)
            told = {alias.name for node in tree.body if isinstance(node, ast.ImportFrom) and node.module in LIBRARY
                    for alias in node.names}
            for node in ast.walk(tree):
                if isinstance(node, ast.Name) and node.id in told:
                    call = parents[node]
                    if not (isinstance(call, ast.Call) and call.func is node and not call.keywords):
                        self.tell("L2", name, node, node.id)

    def test_module_level(self):
        for name, tree in TREES:
            seen = []
            for place, node in enumerate(tree.body):
                if isinstance(node, ast.ImportFrom):
                    seen += [alias.name for alias in node.names]
                elif isinstance(node, (ast.FunctionDef, ast.ClassDef)):
                    seen.append(node.name)
                elif isinstance(node, ast.Assign) and len(node.targets) == 1 and isinstance(node.targets[0], ast.Name):
                    seen.append(node.targets[0].id)
                elif place != 0 or not isinstance(node, ast.Expr):
                    self.tell("L3", name, node, "statement")
            for twice in {one for one in seen if seen.count(one) > 1}:
                self.tell("L15", name, 0, twice)

    def test_statements_and_expressions(self):
        barred = (ast.Lambda, ast.Await, ast.AsyncFunctionDef, ast.Global, ast.AnnAssign, ast.Div, ast.MatMult)
        for name, tree in TREES:
            for node in ast.walk(tree):
                if isinstance(node, ast.stmt) and not isinstance(node, STATEMENTS):
                    self.tell("L6", name, node, node.__class__.__name__)
                if isinstance(node, barred):
                    self.tell("L7", name, 0, node.__class__.__name__)
                if isinstance(node, ast.Constant) and isinstance(node.value, (float, complex)):
                    self.tell("L7", name, node, node.value)
                if isinstance(node, ast.BinOp) and isinstance(node.op, ast.Pow):
                    if not isinstance(node.right, ast.Constant):
                        self.tell("L27", name, node, "power")
                if isinstance(node, ast.Compare):
                    for kind, side in zip(node.ops, node.comparators):
                        if isinstance(kind, (ast.Is, ast.IsNot)) and not isinstance(side, ast.Constant):
                            self.tell("L20", name, node, "is")

    def test_names(self):
        builtin_names = set(dir(builtins)) - {"_"}
        for name, tree in TREES:
            classes = {node.name for node in tree.body if isinstance(node, ast.ClassDef)}
            barred = imported_names(tree) | classes
            for function in functions_of(tree):
                for bound in bound_names(function):
                    if bound in barred or bound in builtin_names or bound in BARRED_NAMES or bound.startswith("__"):
                        self.tell("L15", name, function, bound)
                reads = [node for node in ast.walk(function) if isinstance(node, ast.Name) and node.id == "_"]
                if any(isinstance(node.ctx, ast.Load) for node in reads):
                    self.tell("L12", name, function, "_")
            for node in ast.walk(tree):
                if isinstance(node, (ast.FunctionDef, ast.ClassDef)) and node.name in builtin_names | BARRED_NAMES:
                    self.tell("L15", name, node, node.name)
                if isinstance(node, ast.Name) and node.id in builtin_names and node.id not in BUILTINS:
                    self.tell("L8", name, node, node.id)

    def test_words_and_strings(self):
        for name, text in FILES:
            for token in tokenize.generate_tokens(io.StringIO(text).readline):
                if token.type == tokenize.STRING and ("%" in token.string or re.search(r"\\[^nt\\'\"]", token.string)):
                    self.tell("L27", name, token.start[0], token.string)
                if token.type == tokenize.NAME and token.string in BARRED_WORDS:
                    self.tell("L17", name, token.start[0], token.string)

    def test_calls(self):
        own = {method.name for _, tree in TREES for node in tree.body if isinstance(node, ast.ClassDef)
               for method in methods_of(node) if not method.name.startswith("__")}
        for name, tree in TREES:
            attributes = {node.attr for node in ast.walk(tree)
                          if isinstance(node, ast.Attribute) and isinstance(node.ctx, ast.Store)}
            for node in ast.walk(tree):
                if not isinstance(node, ast.Call):
                    continue
                if isinstance(node.func, ast.Attribute):
                    if node.func.attr not in METHODS | attributes | own:
                        self.tell("L25", name, node, node.func.attr)
                    if node.keywords and node.func.attr in METHODS:
                        self.tell("L25", name, node, node.func.attr)
                elif isinstance(node.func, ast.Name) and node.func.id in dir(builtins):
                    for keyword in node.keywords:
                        if keyword.arg not in ("key", "reverse", "default", "start", "strict"):
                            self.tell("L22", name, node, keyword.arg)
                elif not isinstance(node.func, ast.Name):
                    self.tell("L7", name, node, "call")

    def test_iterated_at_once(self):
        for name, tree in TREES:
            parents = parents_of(tree)
            for node in ast.walk(tree):
                if isinstance(node, ast.Call) and isinstance(node.func, ast.Name):
                    lazy = node.func.id in ("zip", "enumerate", "reversed", "range", "map")
                    if lazy and not self.is_iterated(node, parents):
                        self.tell("L23", name, node, node.func.id)
                if isinstance(node, ast.GeneratorExp):
                    home = parents[node]
                    called = isinstance(home, ast.Call) and isinstance(home.func, ast.Name)
                    if not (called and home.func.id in AT_ONCE and len(home.args) == 1):
                        if not (isinstance(home, ast.Call) and isinstance(home.func, ast.Attribute)
                                and home.func.attr == "join"):
                            self.tell("L7", name, node, "generator")
                if isinstance(node, ast.For):
                    read = {part.id for part in ast.walk(node.iter) if isinstance(part, ast.Name)}
                    for part in ast.walk(ast.Module(body=node.body, type_ignores=[])):
                        if isinstance(part, ast.Call) and isinstance(part.func, ast.Attribute):
                            held = part.func.value
                            modifies = part.func.attr in ("append", "pop", "clear", "extend", "insert", "remove")
                            plain = isinstance(node.iter, ast.Name) or not isinstance(node.iter, ast.Call)
                            if modifies and plain and isinstance(held, ast.Name) and held.id in read:
                                self.tell("L23", name, part, held.id)

    def is_iterated(self, node, parents):
        home = parents[node]
        if isinstance(home, (ast.For, ast.comprehension)):
            return home.iter is node
        if isinstance(home, ast.Call) and isinstance(home.func, ast.Name):
            return home.func.id in AT_ONCE and home.args[0] is node
        return isinstance(home, ast.Compare) and node.func.id == "range"

    def test_sets(self):
        for name, tree in TREES:
            parents = parents_of(tree)
            for node in ast.walk(tree):
                made = isinstance(node, (ast.Set, ast.SetComp)) or (
                    isinstance(node, ast.Call) and isinstance(node.func, ast.Name) and node.func.id == "set")
                if not made:
                    continue
                home = parents[node]
                called = isinstance(home, ast.Call) and isinstance(home.func, ast.Name)
                if not (called and home.func.id in ("sorted", "len") or isinstance(home, (ast.Compare, ast.Assign))):
                    self.tell("L24", name, node, "set")

    def test_classes(self):
        allowed = {"__init__", "__len__", "__bool__", "__contains__", "__enter__", "__exit__"}
        stored = {node.attr for _, tree in TREES for node in ast.walk(tree)
                  if isinstance(node, ast.Attribute) and isinstance(node.ctx, ast.Store)}
        for name, tree in TREES:
            for node in [one for one in tree.body if isinstance(one, ast.ClassDef)]:
                methods = methods_of(node)
                if len(node.body) != len(methods) + 1 or node.decorator_list or node.keywords:
                    self.tell("L5", name, node, node.name)
                for method in methods:
                    if method.name in stored | METHODS:
                        self.tell("L18", name, method, method.name)
                    if method.name.startswith("__") and method.name not in allowed:
                        self.tell("L5", name, method, method.name)
                    if method.name == "__len__" and not re.fullmatch(r"return len\(self\.\w+\)",
                                                                     ast.unparse(method.body[-1])):
                        self.tell("L7", name, method, method.name)
                    if method.name == "__exit__":
                        self.look_at_exit(name, method)

    def look_at_exit(self, name, method):
        if [arg.arg for arg in method.args.args] != ["self", "kind", "value", "trace"]:
            self.tell("L6", name, method, "arguments")
        for node in ast.walk(ast.Module(body=method.body, type_ignores=[])):
            plain = (ast.Module, ast.Assign, ast.If, ast.Compare, ast.Is, ast.IsNot, ast.Attribute, ast.Name,
                     ast.Constant, ast.Load, ast.Store)
            if not isinstance(node, plain) or isinstance(node, ast.Name) and node.id in ("value", "trace"):
                self.tell("L6", name, node, node.__class__.__name__)

    def test_only_own_errors_are_caught(self):
        own = {node.name for name, tree in TREES if name == "errors.py" for node in tree.body
               if isinstance(node, ast.ClassDef)}
        for name, tree in TREES:
            for node in ast.walk(tree):
                if isinstance(node, ast.ExceptHandler):
                    if not (isinstance(node.type, ast.Name) and node.type.id in own):
                        self.tell("L19", name, node, "except")

    def test_sorted_takes_lists(self):
        # The package has operators: there, no generator stands in sorted.
        for name, tree in TREES:
            for node in ast.walk(tree):
                if isinstance(node, ast.Call) and isinstance(node.func, ast.Name) and node.func.id == "sorted":
                    if isinstance(node.args[0], ast.GeneratorExp):
                        self.tell("L5", name, node, "sorted")

    def test_tables_hold_own_functions(self):
        for name, tree in TREES:
            defined = {node.name for node in tree.body if isinstance(node, ast.FunctionDef)}
            for node in tree.body:
                if isinstance(node, ast.Assign):
                    read = {part.id for part in ast.walk(node.value) if isinstance(part, ast.Name)}
                    if read - defined or any(isinstance(part, ast.List) for part in ast.walk(node.value)):
                        self.tell("L3", name, node, sorted(read - defined))

    def test_errors_are_made_on_the_spot(self):
        for name, tree in TREES:
            for node in ast.walk(tree):
                if isinstance(node, ast.Raise) and node.exc is not None:
                    if not (isinstance(node.exc, ast.Call) and isinstance(node.exc.func, ast.Name)):
                        self.tell("L19", name, node, "raise")
                if isinstance(node, ast.ExceptHandler) and node.type is None:
                    self.tell("L19", name, node, "except")
                if isinstance(node, ast.Call) and isinstance(node.func, ast.Name) and node.func.id.startswith("Invalid"):
                    if node.keywords:
                        self.tell("L19", name, node, node.func.id)

    def test_docstrings(self):
        for name, tree in TREES:
            for node in [tree] + functions_of(tree) + [one for one in tree.body if isinstance(one, ast.ClassDef)]:
                private = isinstance(node, ast.FunctionDef) and node.name.startswith("_")
                if not private and ast.get_docstring(node) is None:
                    self.tell("style", name, node, getattr(node, "name", name))


if __name__ == "__main__":
    unittest.main()
