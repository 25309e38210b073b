"""The form of the package's files, as far as a test can see it."""

import ast
import builtins
import pathlib
import unittest

ROOT = pathlib.Path(__file__).resolve().parent.parent
PACKAGE = ROOT / "risenets"
FILES = sorted(path for path in PACKAGE.rglob("*") if path.is_file() and "__pycache__" not in path.parts)
ALLOWED = set("""len range enumerate zip min max sum abs sorted reversed int str bool list tuple dict set isinstance ord repr
any all divmod Exception ValueError TypeError KeyError IndexError LookupError ZeroDivisionError ArithmeticError OverflowError
RuntimeError NotImplementedError AttributeError NotImplemented property""".split())
BARRED_NODES = (ast.GeneratorExp, ast.Global, ast.AsyncFunctionDef, ast.Await, ast.Yield, ast.YieldFrom, ast.Import, ast.Div,
                ast.MatMult, ast.Try, ast.With, ast.Nonlocal)
BARRED_NAMES = {"register", "mro", "elements", "open", "input", "law", "version_info", "type", "typing", "enum", "id", "super"}
# What the interface lists, by module, for the stages that stand.
INTERFACE = {
    "risenets.base.ranges": """is_range is_in nearest turned_range added_ranges less_range shared_range all_shared
        is_all_shared""",
    "risenets.rise.rises": """is_rise pieces currents_of tensions_of tensions_at currents_at is_on place_of crossing
        is_crossing rise_of""",
    "risenets.rise.joins": """turned transposed moved beside in_row meeting is_meeting meetings parting is_parting""",
    "risenets.rise.energies": "anchor_of area_under area_beside gap_of work_between lowest_up",
    "risenets.net.nets": "Net surplus drops work components is_cut is_loop cut_wires loop_currents cut_heights",
    "risenets.net.sums": "loops_of is_loops_of cuts_of heights_or_turn is_heights_or_turn",
    "risenets.net.painting": """is_kinds is_loop_of is_cut_of loop_or_cut is_loop_or_cut reached parted witness
        is_witness""",
    "risenets.fit.currents": """current_ranges is_within currents_or_cut fed_or_cut is_fed_or_cut most_current
        is_most_current current_ends""",
    "risenets.fit.heights": """spans_of heights_or_loop do_fit is_barring greatest_row least_row most_apart
        is_most_apart""",
    "risenets.state.states": """state_or_fight is_state is_fight is_answer broken_wires surplus_knots renumbered
        other_way""",
    "risenets.state.box": """mixed ranges furthest_current is_furthest_current furthest_height is_furthest_height
        least_heights most_heights is_only""",
    "risenets.ends.seen": "seen is_seen is_with seen_paper is_seen_paper",
    "risenets.ends.boxes": """is_box is_had joined battery alike_or_parted is_alike_answer put_in filled read_off""",
    "risenets.state.energies": """energy_of floor_of gaps_of least_energy is_least_energy best_or_loop best_or_knots
        is_best_or_loop is_best_or_knots""",
    "risenets.change.one": """with_rise rest_of points_of has_state_with moved_net range_right range_up does_keep fixed""",
    "risenets.change.feeds": """fed_or_fight is_fed_state is_fed_fight least_fed greatest_fed risen most_fed is_most_fed
        fed_rise""",
    "risenets.ends.recipes": """between recipe_or_bridge is_recipe is_bridge joined recipe_rise is_apart""",
    "risenets.plane.faces": """is_turns faces_by is_plane turns_or_bars is_bars dual_by dual_state dual_loop dual_cut""",
    "risenets.time.tanks": "Tanks MOST_TANKS MOST_LEVEL MOST_TICKS",
    "risenets.told.readings": """agreement is_agreement tensions_told currents_told place_told avoiding is_avoiding can_hide
        hidden_currents MOST_READINGS FARTHEST""",
    "risenets.talk.texts": "rise_text net_text answer_text read_rise read_net read_answer",
    "risenets.talk.bench": "Bench MOST_NETS MOST_NAME",
    "risenets.judge.claims": "is_claim opposite takes answered",
}
# The files whose classes have properties.
WITH_PROPERTIES = ("risenets.net.nets", "risenets.time.tanks", "risenets.talk.bench")


def module_of(path):
    """The name of a file's module."""
    parts = path.relative_to(ROOT).with_suffix("").parts
    return ".".join(parts[:-1] if parts[-1] == "__init__" else parts)


TREES = {module_of(path): ast.parse(path.read_text(encoding="utf-8")) for path in FILES if path.suffix == ".py"}


def defined_in(tree):
    """The names that a file defines at its module level."""
    found = {node.name for node in tree.body if isinstance(node, (ast.FunctionDef, ast.ClassDef))}
    return found | {target.id for node in tree.body if isinstance(node, ast.Assign) for target in node.targets}


def imports_of(tree):
    """The imports of a file."""
    return [node for node in ast.walk(tree) if isinstance(node, ast.ImportFrom)]


class FileTests(unittest.TestCase):
    def test_files(self):
        self.assertLessEqual(len(FILES), 100)
        for path in FILES:
            self.assertEqual(path.suffix, ".py", path)
            self.assertTrue((path.parent / "__init__.py").is_file(), path)
            text = path.read_text(encoding="utf-8")
            self.assertTrue(all(letter == "\n" or " " <= letter <= "~" for letter in text), path)
            self.assertLessEqual(text.count("\n"), 399, path)
            self.assertLessEqual(max(map(len, text.split("\n"))), 120, path)

    def test_modules_have_documents_and_plain_rows_only(self):
        allowed = (ast.ImportFrom, ast.FunctionDef, ast.ClassDef, ast.Assign)
        for name, tree in TREES.items():
            self.assertTrue(ast.get_docstring(tree), name)
            for node in tree.body[1:]:
                self.assertIsInstance(node, allowed, name)
            for node in tree.body:
                if isinstance(node, ast.Assign):
                    self.assertFalse([part for part in ast.walk(node.value) if isinstance(part, (ast.Call, ast.Name))])

    def test_functions_are_small_and_told(self):
        for name, tree in TREES.items():
            for node in ast.walk(tree):
                if isinstance(node, ast.FunctionDef):
                    self.assertLessEqual(node.end_lineno - node.lineno + 1, 40, (name, node.name))
                    told = node.name.startswith("__") or ast.get_docstring(node)
                    self.assertTrue(told, (name, node.name))


class ImportTests(unittest.TestCase):
    def test_imports_name_the_file_that_defines(self):
        for name, tree in TREES.items():
            for node in imports_of(tree):
                self.assertEqual((node.level, node.module in TREES), (0, True), (name, node.module))
                self.assertIn(node, tree.body)
                for alias in node.names:
                    self.assertIsNone(alias.asname)
                    self.assertIn(alias.name, defined_in(TREES[node.module]), name)

    def test_imports_are_used(self):
        for name, tree in TREES.items():
            used = {node.id for node in ast.walk(tree) if isinstance(node, ast.Name)}
            for node in imports_of(tree):
                self.assertLessEqual({alias.name for alias in node.names}, used, name)

    def test_no_rounds(self):
        behind = {name: {node.module for node in imports_of(tree)} for name, tree in TREES.items()}
        while behind:
            free = [name for name in behind if not behind[name] & set(behind)]
            self.assertTrue(free, behind)
            for name in free:
                del behind[name]

    def test_interface_is_defined_where_it_is_listed(self):
        for module, names in INTERFACE.items():
            self.assertLessEqual(set(names.split()), defined_in(TREES[module]), module)


class NameTests(unittest.TestCase):
    def test_no_barred_parts(self):
        for name, tree in TREES.items():
            for node in ast.walk(tree):
                self.assertNotIsInstance(node, BARRED_NODES, (name, getattr(node, "lineno", 0)))
                if isinstance(node, ast.Constant):
                    self.assertNotIsInstance(node.value, (float, complex, bytes), name)
                if isinstance(node, (ast.FunctionDef, ast.ClassDef)):
                    wanted = [["property"]] if name in WITH_PROPERTIES else []
                    marks = [mark.id for mark in node.decorator_list]
                    self.assertIn(marks, [[]] + wanted, (name, node.name))

    def test_builtins(self):
        for name, tree in TREES.items():
            for node in ast.walk(tree):
                if isinstance(node, ast.Name) and hasattr(builtins, node.id):
                    self.assertIn(node.id, ALLOWED, name)
                    self.assertIsInstance(node.ctx, ast.Load, (name, node.id))

    def test_no_name_has_two_meanings(self):
        for name, tree in TREES.items():
            imported = {alias.name for node in imports_of(tree) for alias in node.names}
            top = defined_in(tree)
            self.assertFalse(imported & top, name)
            names = [node.name for node in tree.body if isinstance(node, (ast.FunctionDef, ast.ClassDef))]
            self.assertEqual(len(names), len(set(names)), name)
            for node in ast.walk(tree):
                if isinstance(node, ast.FunctionDef):
                    inner = {part.arg for part in ast.walk(node) if isinstance(part, ast.arg)}
                    inner |= {part.id for part in ast.walk(node)
                              if isinstance(part, ast.Name) and isinstance(part.ctx, ast.Store)}
                    self.assertFalse(inner & (imported | top | set(dir(builtins)) | BARRED_NAMES), (name, node.name))

    def test_strings(self):
        for name, tree in TREES.items():
            for node in ast.walk(tree):
                if isinstance(node, ast.Constant) and isinstance(node.value, str):
                    self.assertNotIn("%", node.value, name)


if __name__ == "__main__":
    unittest.main()
