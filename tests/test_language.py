"""That the files of the package keep to the rules of the language, where a script can see it.

The package uses less than the rules let: only own errors are caught, there is no decorator but for
properties that are read, and there are no generators, no matches, no operators of its own but for one
equality. So these checks are narrower than the rules.
"""
import ast
import builtins
import pathlib
import re
import unittest

FOLDER = pathlib.Path(__file__).resolve().parent.parent / "housekept"
FILES = sorted(FOLDER.glob("*.py"))
TREES = {path.stem: ast.parse(path.read_text()) for path in FILES}

INTERFACE = {
    "buildings": "area_at is_building is_name", "ways": "joined least_way narrows parting",
    "rights": "company_reach helpers stranded",
    "rules": "begin fault is_signal is_standing is_text signals stands value_of variables",
    "rounds": "by_itself once told_next", "meaning": "behind is_void meaning renamed reordered run",
    "reasons": "apart is_reason reach reads reason writes",
    "machines": "Machine answers is_world signals_in way whole_world", "least": "alike classes least",
    "judging": "always can_go clashes commute endless fires holds met two_orders without",
    "webs": "is_web places_of web_of", "air": "is_air is_setting next_degrees",
    "alarms": "is_watch shortened shown_to watch_tick watched",
    "crowds": "count_there crowd_at household_of is_crowd is_household is_within least_crowds",
    "courses": "ahead led", "promises": "are_met brute is_broken is_promise loads_of places_where",
    "tables": "Table", "households": "boxes holds_for households households_of is_break still_safe",
    "letters": "has_net heard is_letters is_net is_pointer_row letters_of pointers",
    "panels": "is_parting lines panel_text places", "joined": "joint_behind joint_web",
    "seams": "beside best_passage healing never_heals seam",
    "exchange": "bad_moments carried exchange_web goes_to good is_passage no_wait sure_wait", "bench": "Bench",
    "days": "date_of kind_of number_of", "calendars": "is_calendar mode_at plan_on told_day",
    "comfort": "Comfort comfort_paper escape is_comfort_paper least_switches", "flows": "",
    "logs": "course_of first_impossible is_course is_log links placed standings",
    "counts": "bounds_there crowd_course crowd_fits crowd_of is_crowd_course least_lies numbers_there",
    "readtexts": "ended text_from", "deedlines": "", "texts": "text_of", "desk": "Desk",
    "escapes": "aged bad_places free_areas safe_after safe_for shut_in",
    "marks": "comes free_marks is_mark is_walk mark_of open_places starts", "firstwalks": "",
    "games": "deeds_out hinder way_outs", "storms": "Storm", "warmth": "Warmth", "guarded": "Guarded",
    "journals": "first_wrong journal", "lags": "least_by parts_by settles unsettled",
    "lifts": "collective is_rule lift_standings lift_step lift_web one_way",
    "lifttexts": "lift_of lift_text lift_world", "times": "bound clock is_clock is_ring late ring within",
    "liftwaits": "call_marks call_waits collective_waits greatest_wait held one_way_waits",
    "lone": "lone_sleepers lone_wait", "trees": "Tree", "mirrors": "counter_marks low over_by short_by",
    "wheels": "combined first_unlike is_wheel next_change wheel_of wheel_plan",
    "modes": "calendar_meets journey_end", "papers": "is_paper keeps", "plaintexts": "is_strict plain_text",
    "rolling": "bad_mixtures rolling_web safe_orders", "silence": "", "safe": "any_silence controls is_silence_table safe_tables",
    "waits": "delay is_delay soon soonest", "spans": "spans", "sums": "hour_of hours_of",
    "twins": "merged merged_household twins", "weathers": "coldest extremes hottest plan_broken run_plan",
    "unseen": "Unseen is_knowledge known_after thermometer weathers_that_fit",
    "whereabouts": "bar course_with is_bar may may_so_far placements together"}
ORDER = ["errors"] + list(INTERFACE)
# Further files: they import nothing but one another.
FURTHER = ["graphs", "shapes"]
METHODS = {"Machine": "standing number after __len__", "Table": "least paper left next_move moves_left",
           "Bench": "show go signal exchange keep back undo text household now kept log crowd doors __len__ copy tried "
                    "holds still guarded __eq__",
           "Comfort": "states rank free answer", "Desk": "say", "Storm": "__len__ longest course",
           "Warmth": "moments broken", "Guarded": "__len__ longest said answered worst",
           "Tree": "nodes reaches greatest course_to", "Unseen": "rank free"}

LIBRARY = {"heapq": "heappush heappop heapify heapreplace heappushpop", "math": "gcd lcm isqrt comb perm factorial",
           "itertools": "product combinations permutations chain accumulate pairwise islice zip_longest",
           "collections": "defaultdict deque"}
BUILTINS = set("""len range enumerate zip min max sum abs sorted reversed int str bool bytes list tuple dict set
frozenset isinstance ord repr any all divmod type ValueError property""".split())
KEYWORDS = {"sorted": {"key", "reverse"}, "min": {"key", "default"}, "max": {"key", "default"}, "sum": {"start"},
            "enumerate": {"start"}, "zip": {"strict"}}
VALUE_METHODS = set("""append clear copy count endswith extend find get index insert isalnum isalpha isdigit islower
isspace isupper items join keys ljust lower lstrip partition pop remove replace reverse rfind rjust rpartition rsplit
rstrip setdefault split splitlines startswith strip update upper values zfill bit_length""".split())
NEVER = set("""mro elements open input law version_info with_traceback add_note register""".split())
NO_NAMES = set("""attrgetter breakpoint builtins compile copyright credits delattr dir eval exec exit gc getattr globals
hasattr help id importlib license locals methodcaller os quit setattr super vars sys""".split())
NO_ATTRIBUTES = set("""items keys values pop update append clear extend insert remove reverse setdefault sort args encode
decode hex fromhex format format_map mro""".split())
NO_WORDS = set("""typing typing_extensions enum Enum IntEnum StrEnum Flag IntFlag Generic Protocol ABC ABCMeta namedtuple
NamedTuple TypedDict TYPE_CHECKING abstractmethod""".split())
NODES = (ast.Module, ast.Expr, ast.FunctionDef, ast.ClassDef, ast.Return, ast.Assign, ast.AugAssign, ast.Delete, ast.For,
         ast.While, ast.If, ast.Raise, ast.Pass, ast.Break, ast.Continue, ast.ImportFrom, ast.BoolOp, ast.BinOp,
         ast.UnaryOp, ast.Lambda, ast.IfExp, ast.Dict, ast.ListComp, ast.DictComp, ast.Compare, ast.Call, ast.Constant,
         ast.Attribute, ast.Subscript, ast.Name, ast.List, ast.Tuple, ast.Slice, ast.comprehension, ast.arguments,
         ast.Try, ast.ExceptHandler,
         ast.arg, ast.keyword, ast.alias, ast.expr_context, ast.boolop, ast.operator, ast.unaryop, ast.cmpop)


def functions(tree):
    return [node for node in ast.walk(tree) if isinstance(node, ast.FunctionDef)]


def classes(tree):
    return [node for node in ast.walk(tree) if isinstance(node, ast.ClassDef)]


def top_names(tree):
    """The names that a file defines itself."""
    found = []
    for node in tree.body:
        if isinstance(node, (ast.FunctionDef, ast.ClassDef)):
            found.append(node.name)
        if isinstance(node, ast.Assign):
            found.extend(target.id for target in node.targets)
    return found


def imported(tree):
    return [alias.name for node in tree.body if isinstance(node, ast.ImportFrom) for alias in node.names]


def local_names(function):
    """Parameters and all names that are assigned within a function."""
    names = [node.arg for node in ast.walk(function) if isinstance(node, ast.arg)]
    return names + [node.id for node in ast.walk(function)
                    if isinstance(node, ast.Name) and isinstance(node.ctx, (ast.Store, ast.Del))]


METHOD_NAMES = {node.name for tree in TREES.values() for kind in classes(tree) for node in functions(kind)}
STORED = {node.attr for tree in TREES.values() for node in ast.walk(tree)
          if isinstance(node, ast.Attribute) and isinstance(node.ctx, ast.Store)}


class Case(unittest.TestCase):
    def each(self, kinds):
        """All nodes of some kinds, each with what to say of it."""
        for stem, tree in TREES.items():
            for node in ast.walk(tree):
                if isinstance(node, kinds):
                    yield node, f"{stem}.py:{getattr(node, 'lineno', 0)}"


class Files(Case):
    def test_folder(self):
        for path in FOLDER.iterdir():
            self.assertTrue(path.name == "__pycache__" or re.fullmatch(r"[a-z_0-9]+\.py", path.name), path)
        self.assertLessEqual(len(FILES), 100)
        self.assertEqual(TREES["__init__"].body, [])

    def test_sizes_and_characters(self):
        for path in FILES:
            text = path.read_bytes().decode("utf-8")
            lines = text.split("\n")
            self.assertLessEqual(len(lines) - 1, 399, path)
            for at, line in enumerate(lines):
                self.assertLessEqual(len(line), 120, f"{path}:{at + 1}")
                self.assertTrue(all(" " <= sign <= "~" for sign in line), f"{path}:{at + 1}")

    def test_functions_are_short(self):
        for node, where in self.each(ast.FunctionDef):
            self.assertLessEqual(node.end_lineno - node.lineno + 1, 40, where)

    def test_only_plain_nodes(self):
        for stem, tree in TREES.items():
            for node in ast.walk(tree):
                self.assertIsInstance(node, NODES, f"{stem}.py:{getattr(node, 'lineno', 0)}")
                self.assertNotIsInstance(node, (ast.Div, ast.MatMult), stem)


class Modules(Case):
    def test_imports(self):
        for stem, tree in TREES.items():
            body = [node for node in tree.body if not isinstance(node, ast.Expr)]
            heads = [isinstance(node, ast.ImportFrom) for node in body]
            self.assertEqual(heads, sorted(heads, reverse=True), stem)
            for node in body[:sum(heads)]:
                self.assertEqual(node.level, 0, stem)
                names = [alias.name for alias in node.names]
                self.assertTrue(all(alias.asname is None for alias in node.names), stem)
                if node.module in LIBRARY:
                    self.assertTrue(all(name in LIBRARY[node.module].split() for name in names), stem)
                    continue
                folder, _, other = node.module.partition(".")
                self.assertEqual(folder, "housekept", stem)
                for name in names:
                    self.assertIn(name, top_names(TREES[other]), f"{stem} imports {name}")

    def test_imports_are_used(self):
        for stem, tree in TREES.items():
            used = {node.id for node in ast.walk(tree) if isinstance(node, ast.Name)}
            self.assertEqual([name for name in imported(tree) if name not in used], [], stem)

    def test_imports_only_from_files_listed_before(self):
        for stem, tree in TREES.items():
            for node in tree.body:
                other = node.module.partition(".")[2] if isinstance(node, ast.ImportFrom) else ""
                if other in ORDER:
                    self.assertIn(stem, ORDER, f"{stem} imports {other}")
                    self.assertLess(ORDER.index(other), ORDER.index(stem), f"{stem} imports {other}")
                elif other:
                    self.assertIn(other, FURTHER, stem)

    def test_interface_is_defined_where_it_is_listed(self):
        for stem, names in INTERFACE.items():
            made = [node.name for node in TREES[stem].body if isinstance(node, (ast.FunctionDef, ast.ClassDef))]
            for name in names.split():
                self.assertIn(name, made, stem)
        for stem in INTERFACE:
            for kind in classes(TREES[stem]):
                for name in METHODS.get(kind.name, "").split():
                    self.assertIn(name, [node.name for node in functions(kind)])

    def test_module_level(self):
        for stem, tree in TREES.items():
            names = top_names(tree) + imported(tree)
            self.assertEqual(len(names), len(set(names)), stem)
            for at, node in enumerate(tree.body):
                if isinstance(node, ast.Expr):
                    self.assertTrue(at == 0 and isinstance(node.value, ast.Constant), stem)
                if isinstance(node, ast.Assign):
                    self.assertEqual(len(node.targets), 1)
                    self.assertIsInstance(node.targets[0], ast.Name)
                    for inner in ast.walk(node.value):
                        self.assertNotIsInstance(inner, (ast.Call, ast.ListComp, ast.DictComp, ast.Lambda), stem)

    def test_no_decorators_but_properties_and_plain_defaults(self):
        for node, where in self.each((ast.FunctionDef, ast.ClassDef)):
            if node.decorator_list:
                self.assertEqual([ast.unparse(one) for one in node.decorator_list], ["property"], where)
                # It only reads: one row behind what it tells.
                self.assertEqual([type(row) for row in node.body], [ast.Expr, ast.Return], where)
                self.assertNotIn(node.name, STORED, where)
        for node, where in self.each(ast.arguments):
            self.assertIsNone(node.vararg or node.kwarg, where)
            for default in node.defaults + [one for one in node.kw_defaults if one is not None]:
                self.assertIsInstance(default, (ast.Constant, ast.UnaryOp, ast.Tuple), where)

    def test_double_underscore_methods(self):
        for node, where in self.each(ast.FunctionDef):
            if node.name.startswith("__"):
                self.assertIn(node.name, ("__init__", "__len__", "__eq__"), where)
        for node, where in self.each(ast.FunctionDef):
            returns = [inner for inner in ast.walk(node) if isinstance(inner, ast.Return)]
            if node.name == "__init__":
                self.assertEqual(returns, [], where)
            if node.name == "__len__":
                self.assertTrue(all(one.value.func.id == "len" for one in returns), where)
            if node.name == "__eq__":
                self.assertRegex(ast.unparse(node.body[0]), r"^return isinstance\(other, \w+\)( and \(?self\.(\w+) == other\.\2\)?)*$")

    def test_classes_stand_alone(self):
        """So no method is read off a class by its name."""
        own = {kind.name for tree in TREES.values() for kind in classes(tree)}
        for node, where in self.each(ast.ClassDef):
            if not where.startswith("errors"):
                self.assertEqual(node.bases, [], where)
        for node, where in self.each(ast.Attribute):
            self.assertFalse(isinstance(node.value, ast.Name) and node.value.id in own, where)

    def test_errors_are_caught_by_name(self):
        own = {node.name for node in ast.walk(TREES["errors"]) if isinstance(node, ast.ClassDef)}
        for node, where in self.each(ast.ExceptHandler):
            self.assertIn(node.type.id, own, where)
        for node, where in self.each(ast.Try):
            for row in [inner for one in node.finalbody for inner in ast.walk(one) if isinstance(inner, ast.stmt)]:
                self.assertIsInstance(row, (ast.If, ast.Assign), where)


class Names(Case):
    def test_names_are_plain(self):
        for stem, tree in TREES.items():
            made = [kind.name for kind in classes(tree)] + imported(tree)
            for function in functions(tree):
                for name in local_names(function):
                    self.assertNotIn(name, made, f"{stem}.{function.name}")
                    self.assertFalse(hasattr(builtins, name), f"{stem}.{function.name}: {name}")
                    self.assertNotIn(name, NEVER | NO_NAMES, f"{stem}.{function.name}")
                    self.assertRegex(name, r"^(_|_?[A-Za-z][A-Za-z0-9_]*)$")
            for name in top_names(tree):
                self.assertFalse(hasattr(builtins, name), f"{stem}: {name}")
                self.assertNotIn(name, NEVER | NO_NAMES, stem)

    def test_underscore_is_never_read(self):
        for node, where in self.each(ast.Name):
            if node.id == "_":
                self.assertIsInstance(node.ctx, ast.Store, where)

    def test_attributes(self):
        for node, where in self.each(ast.Attribute):
            self.assertNotIn(node.attr, NEVER, where)
            self.assertFalse(node.attr.startswith("__") and node.attr not in ("__init__", "__name__"), where)
            if node.attr == "__name__":
                self.assertRegex(ast.unparse(node), r"^type\([a-z]+\).__name__$", where)
                continue
            if isinstance(node.ctx, ast.Store):
                self.assertIsInstance(node.value, ast.Name, where)
                self.assertNotIn(node.attr, NO_ATTRIBUTES, where)
            else:
                self.assertTrue(node.attr in STORED | METHOD_NAMES | VALUE_METHODS, f"{where}: {node.attr}")
        for tree in TREES.values():
            for kind in classes(tree):
                names = {node.name for node in functions(kind)}
                kept = {node.attr for node in ast.walk(kind) if isinstance(node, ast.Attribute)
                        and isinstance(node.ctx, ast.Store) and isinstance(node.value, ast.Name)
                        and node.value.id == "self"}
                self.assertEqual(names & kept, set(), kind.name)

    def test_strings(self):
        for node, where in self.each(ast.Constant):
            self.assertNotIsInstance(node.value, (float, complex, bytes, type(...)), where)
            if isinstance(node.value, str):
                self.assertNotIn("%", node.value, where)
                self.assertNotIn("__", node.value, where)
                self.assertNotIn("\\", node.value, where)
        for path in FILES:
            words = set(re.findall(r"[A-Za-z_]+", path.read_text()))
            self.assertEqual(words & NO_WORDS, set(), path)
            for line in path.read_text().split("\n"):
                self.assertNotRegex(line.split("#")[0], r"\btype\b(?!\()", path)


class Calls(Case):
    def test_builtins(self):
        for stem, tree in TREES.items():
            known = set(top_names(tree)) | set(imported(tree))
            for node in ast.walk(tree):
                if isinstance(node, ast.Name) and hasattr(builtins, node.id) and node.id not in known:
                    self.assertIn(node.id, BUILTINS, f"{stem}:{node.lineno}")

    def test_keywords_of_builtins(self):
        for node, where in self.each(ast.Call):
            if isinstance(node.func, ast.Name) and node.func.id in BUILTINS:
                allowed = KEYWORDS.get(node.func.id, set())
                self.assertTrue(all(keyword.arg in allowed for keyword in node.keywords), where)
            if isinstance(node.func, ast.Attribute) and node.func.attr not in METHOD_NAMES:
                self.assertIn(node.func.attr, VALUE_METHODS, where)
                self.assertEqual(node.keywords, [], where)

    def test_type_is_only_compared(self):
        for stem, tree in TREES.items():
            compared = [id(one) for node in ast.walk(tree) if isinstance(node, ast.Compare)
                        for one in [node.left] + node.comparators]
            compared += [id(node.value) for node in ast.walk(tree) if isinstance(node, ast.Attribute)
                         and node.attr == "__name__"]
            for node in ast.walk(tree):
                if isinstance(node, ast.Call) and isinstance(node.func, ast.Name) and node.func.id == "type":
                    self.assertIn(id(node), compared, f"{stem}:{node.lineno}")

    def test_sets_are_sorted_or_counted_at_once(self):
        for stem, tree in TREES.items():
            let = [id(arg) for node in ast.walk(tree) if isinstance(node, ast.Call) and isinstance(node.func, ast.Name)
                   and node.func.id in ("sorted", "len") and not node.keywords for arg in node.args]
            for node in ast.walk(tree):
                if isinstance(node, ast.Call) and isinstance(node.func, ast.Name) and node.func.id == "set":
                    self.assertIn(id(node), let, f"{stem}:{node.lineno}")

    def test_views_are_iterated_on_the_spot(self):
        users = {"list", "tuple", "dict", "sorted", "sum", "any", "all", "enumerate", "zip", "min", "max", "permutations"}
        for stem, tree in TREES.items():
            let = []
            for node in ast.walk(tree):
                if isinstance(node, (ast.For, ast.comprehension)):
                    let.append(id(node.iter))
                if isinstance(node, ast.Call) and isinstance(node.func, ast.Name) and node.func.id in users:
                    let.extend(id(arg) for arg in node.args)
                if isinstance(node, ast.Assign) and isinstance(node.value, ast.Call):
                    if isinstance(node.value.func, ast.Name) and node.value.func.id == "range":
                        let.append(id(node.value))
            for node in ast.walk(tree):
                if isinstance(node, ast.Call) and isinstance(node.func, ast.Name):
                    if node.func.id in ("zip", "enumerate", "range", "reversed"):
                        self.assertIn(id(node), let, f"{stem}:{node.lineno}")
                if isinstance(node, ast.Call) and isinstance(node.func, ast.Attribute):
                    self.assertNotIn(node.func.attr, ("items", "keys", "values", "sort"), f"{stem}:{node.lineno}")

    def test_is_only_with_none_and_truths(self):
        for node, where in self.each(ast.Compare):
            for sign, right in zip(node.ops, node.comparators):
                if isinstance(sign, (ast.Is, ast.IsNot)):
                    kinds = isinstance(right, ast.Call) or (isinstance(right, ast.Name) and right.id in BUILTINS)
                    plain = isinstance(right, ast.Constant) and (right.value is None or type(right.value) is bool)
                    self.assertTrue(kinds or plain, where)

    def test_loops_do_not_change_what_they_iterate_over(self):
        changing = {"append", "extend", "pop", "insert", "remove", "clear", "update", "setdefault", "reverse"}
        for node, where in self.each(ast.For):
            heads = {ast.dump(inner) for inner in ast.walk(node.iter) if isinstance(inner, (ast.Name, ast.Attribute))}
            for inner in [one for row in node.body for one in ast.walk(row)]:
                if isinstance(inner, ast.Call) and isinstance(inner.func, ast.Attribute):
                    if inner.func.attr in changing:
                        self.assertNotIn(ast.dump(inner.func.value), heads, where)
                if isinstance(inner, ast.Subscript) and isinstance(inner.ctx, (ast.Store, ast.Del)):
                    iterated = isinstance(node.iter, (ast.Name, ast.Attribute)) and ast.dump(node.iter)
                    self.assertNotEqual(ast.dump(inner.value).replace("Store", "Load"), iterated, where)

    def test_lambdas_stand_alone(self):
        lines = [where for _, where in self.each(ast.Lambda)]
        self.assertEqual(len(lines), len(set(lines)))

    def test_raise_makes_its_error(self):
        for node, where in self.each(ast.Raise):
            self.assertIsInstance(node.exc, ast.Call, where)
            self.assertIsInstance(node.exc.func, ast.Name, where)

    def test_exponents_are_literals(self):
        for node, where in self.each(ast.BinOp):
            if isinstance(node.op, ast.Pow):
                self.assertIsInstance(node.right, ast.Constant, where)


if __name__ == "__main__":
    unittest.main()
