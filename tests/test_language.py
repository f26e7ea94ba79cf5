"""Rules of the language subset that can be seen in the source files of the package."""

import ast
import builtins
import keyword
import re
import unittest
from pathlib import Path

PACKAGE = Path(__file__).resolve().parent.parent / "eventcore"
LIBRARY = {
    "heapq": {"heappush", "heappop", "heapify", "heapreplace", "heappushpop"},
    "math": {"gcd", "lcm", "isqrt", "comb", "perm", "factorial"},
    "itertools": {"product", "combinations", "permutations"},
}
ALLOWED_BUILTINS = set("""len range enumerate zip min max sum abs sorted reversed int str bool bytes list tuple dict set
frozenset isinstance ord repr any all divmod Exception ValueError TypeError KeyError IndexError LookupError
ZeroDivisionError ArithmeticError OverflowError RuntimeError NotImplementedError AttributeError StopIteration
NotImplemented iter next map super""".split())
METHODS = set("""append clear copy count endswith extend find get index insert isalnum isalpha isdigit islower isspace
isupper items join keys ljust lower lstrip partition pop remove replace reverse rfind rjust rpartition rsplit rstrip
setdefault split splitlines startswith strip update upper values zfill bit_length __init__""".split())
BARRED_NAMES = set("""register mro elements open input law version_info with_traceback add_note attrgetter breakpoint
builtins compile copyright credits delattr dir eval exec exit gc getattr globals hasattr help id importlib license
locals methodcaller os quit setattr type vars sys __name__""".split())
BARRED_WORDS = """type typing typing_extensions enum Enum IntEnum StrEnum Flag IntFlag Generic Protocol ABC ABCMeta
namedtuple NamedTuple TypedDict TYPE_CHECKING abstractmethod""".split()
STATEMENTS = (ast.Import, ast.Global, ast.AsyncFunctionDef, ast.AsyncFor, ast.AsyncWith, ast.Await, ast.Set,
              ast.SetComp, ast.GeneratorExp)


def files():
    return sorted(PACKAGE.glob("*.py"))


def walk_all():
    for path in files():
        for node in ast.walk(ast.parse(path.read_text())):
            yield path, node


def module_names(path):
    """The names that the file binds at module level, without its imports."""
    names = []
    for node in ast.parse(path.read_text()).body:
        if isinstance(node, (ast.FunctionDef, ast.ClassDef)):
            names.append(node.name)
        elif isinstance(node, ast.Assign):
            names += [target.id for target in node.targets]
    return names


def imports(path):
    """Pairs of a module and a name."""
    found = []
    for node in ast.parse(path.read_text()).body:
        if isinstance(node, ast.ImportFrom):
            found += [(node.module, alias.name) for alias in node.names]
    return found


def bound_names(function):
    """The parameters and local variables of a function."""
    rows = function.args
    names = [row.arg for row in rows.posonlyargs + rows.args + rows.kwonlyargs]
    for node in ast.walk(function):
        if isinstance(node, ast.Name) and isinstance(node.ctx, ast.Store):
            names.append(node.id)
        elif isinstance(node, ast.Lambda):
            names += [row.arg for row in node.args.args]
    return names


class LanguageTest(unittest.TestCase):
    def test_the_folder_holds_only_plain_files(self):
        for path in PACKAGE.iterdir():
            if path.name != "__pycache__":
                self.assertRegex(path.name, r"^(__init__|[a-z][a-z0-9_]*)\.py$")
        self.assertTrue((PACKAGE / "__init__.py").exists())

    def test_sizes_and_characters(self):
        for path in files():
            text = path.read_text()
            self.assertTrue(all(char == "\n" or " " <= char <= "~" for char in text), path)
            lines = text.splitlines()
            self.assertLessEqual(len(lines), 399, path)
            self.assertTrue(all(len(line) <= 120 for line in lines), path)
        for path, node in walk_all():
            if isinstance(node, ast.FunctionDef):
                self.assertLessEqual(node.end_lineno - node.lineno + 1, 40, f"{path} {node.name}")
                self.assertTrue(ast.get_docstring(node) or node.name == "__init__", f"{path} {node.name}")

    def test_imports(self):
        for path in files():
            for module, name in imports(path):
                if module in LIBRARY:
                    self.assertIn(name, LIBRARY[module])
                else:
                    package, _, rest = module.partition(".")
                    self.assertEqual(package, "eventcore", path)
                    self.assertIn(name, module_names(PACKAGE / f"{rest}.py"), path)
        for path, node in walk_all():
            if isinstance(node, ast.ImportFrom):
                self.assertEqual(node.level, 0)
                self.assertTrue(all(alias.asname is None for alias in node.names), path)

    def test_every_import_is_used(self):
        for path in files():
            used = {node.id for node in ast.walk(ast.parse(path.read_text())) if isinstance(node, ast.Name)}
            for _, name in imports(path):
                self.assertIn(name, used, path)

    def test_no_files_import_each_other(self):
        graph = {f"eventcore.{path.stem}": {module for module, _ in imports(path)} for path in files()}
        left = dict(graph)
        while left:
            free = [name for name in left if not left[name] & set(left)]
            self.assertTrue(free, f"a ring among {sorted(left)}")
            for name in free:
                del left[name]

    def test_statements_and_expressions(self):
        for path, node in walk_all():
            self.assertNotIsInstance(node, STATEMENTS, path)
            self.assertFalse(isinstance(node, ast.BinOp) and isinstance(node.op, ast.Div), path)
            self.assertFalse(isinstance(node, ast.AugAssign) and isinstance(node.op, ast.Div), path)
            if isinstance(node, ast.Constant):
                self.assertNotIsInstance(node.value, (float, complex), path)
                if isinstance(node.value, str):
                    self.assertNotIn("%", node.value, path)
            if isinstance(node, (ast.FunctionDef, ast.ClassDef)):
                self.assertEqual(node.decorator_list, [], path)

    def test_stars_stand_over_plain_values(self):
        for path, node in walk_all():
            if isinstance(node, ast.Starred) and isinstance(node.value, ast.Call):
                self.assertIsInstance(node.value.func, ast.Name, path)
                self.assertNotIn(node.value.func.id, ("range", "zip", "enumerate", "reversed", "map", "iter"), path)
            if isinstance(node, ast.Dict):
                self.assertNotIn(None, node.keys, path)

    def test_module_level(self):
        allowed = (ast.ImportFrom, ast.FunctionDef, ast.ClassDef, ast.Assign, ast.Expr)
        for path in files():
            for node in ast.parse(path.read_text()).body:
                self.assertIsInstance(node, allowed, path)
                if isinstance(node, ast.Expr):
                    self.assertIsInstance(node.value.value, str)
                if isinstance(node, ast.Assign):
                    self.assertIsInstance(node.value, ast.Constant, path)
            bound = module_names(path) + [name for _, name in imports(path)]
            self.assertEqual(len(bound), len(set(bound)), path)

    def test_builtins_and_methods(self):
        own = {one.name for _, node in walk_all() if isinstance(node, ast.ClassDef) for one in node.body
               if isinstance(one, ast.FunctionDef)}
        for path, node in walk_all():
            if isinstance(node, ast.Name) and hasattr(builtins, node.id):
                self.assertIn(node.id, ALLOWED_BUILTINS, path)
                self.assertIsInstance(node.ctx, ast.Load, path)
            if isinstance(node, ast.Call) and isinstance(node.func, ast.Attribute):
                self.assertIn(node.func.attr, METHODS | own, path)

    def test_names(self):
        for path, node in walk_all():
            if isinstance(node, ast.FunctionDef):
                taken = {name for _, name in imports(path)} | set(module_names(path))
                for name in bound_names(node):
                    self.assertFalse(hasattr(builtins, name), f"{path} {name}")
                    self.assertNotIn(name, taken, path)
                    self.assertNotIn(name, BARRED_NAMES, path)
                    self.assertRegex(name, r"^(_|_?[A-Za-z][A-Za-z0-9_]*)$")
                    self.assertFalse(keyword.iskeyword(name))
                self.assertTrue(node.name == "__init__" or not hasattr(builtins, node.name), f"{path} {node.name}")

    def test_words_that_are_not_used(self):
        for path in files():
            text = path.read_text()
            for word in BARRED_WORDS:
                self.assertIsNone(re.search(rf"\b{word}\b", text), f"{path} {word}")
            for word in ("dataclass", "overload", "contextmanager", "_wall", "_WallAttr"):
                self.assertNotIn(word, text, path)

    def test_the_interface_is_defined_where_it_is_listed(self):
        listed = {
            "tasks": "synchronous", "simulation": "simulate simulate_runs",
            "schedules": "shows_schedule finishes responses missed idle_units",
            "tasktext": "write_tasks read_tasks",
            "fixed": "busy_period worst_response worst_job meets_fixed",
            "orders": "feasible_order stuck_set shows_stuck greatest_scale",
            "deadlines": "demand overfull_length worst_by_deadline least_deadline first_miss",
            "whole": "whole_overfull longest_region worst_whole_response later_when_shorter",
            "equal": "equal_starts refusal shows_starts shows_refusal",
            "machine": "whole_starts shows_whole_starts needs_waiting fewest_points",
            "slots": "first_collision free_offsets", "locks": "ceilings lock_ring simulate_locked",
            "blocking": "blocked_units blockers worst_blocking locked_response_bound",
            "interrupted": "unit_schedule shows_units full_window least_lateness",
            "linked": "least_late_order most_on_time best_units tightened linked_schedule",
            "parallel": "wrapped shows_pieces parallel_schedule crowd shows_parallel shows_crowd",
            "openshop": "open_steps shows_steps", "fair": "fair_schedule shows_fair",
            "levels": "level_steps two_machine_steps level_bound",
            "intervals": "interval_machines best_intervals crowded_unit",
            "lists": "flow_end flow_order sum_of_ends shortest_first list_end least_end partition",
            "rings": "ring_for shows_ring frame_sizes",
            "supply": "least_supply greatest_supply reduced free_shift unserved_length table_missed",
            "servers": "deferrable_units polling_units deferrable_bound",
            "explaining": "forced_pairs explaining_orders first_breach deadline_choices",
            "filling": "fillings possible_entries joined nearest_schedule", "watching": "doom first_doom",
            "desk": "Desk",
        }
        for stem, names in listed.items():
            self.assertLessEqual(set(names.split()), set(module_names(PACKAGE / f"{stem}.py")))


if __name__ == "__main__":
    unittest.main()
