"""Each name of the interface stands in its file, with its arguments; and what the files of the package may contain."""

import ast
import builtins
import inspect
import unittest
from importlib import import_module
from pathlib import Path

PACKAGE = Path(__file__).resolve().parent.parent / "walledin"

INTERFACE = {
    "yards": ["sides(yard, number)", "rooms_open_to(yard, lot)", "rooms_come_to(yard, lot)",
              "steps_between(yard, lot, one, other)", "touching(yard, room)"],
    "orders": ["is_order(yard, order)", "can_walk(yard, order, room)", "stuck_at(yard, order)",
               "stands(yard, order)", "has_order(yard)", "first_order(yard)", "last_order(yard)"],
    "lots": ["is_open(yard, lot)", "heart(yard, lot)", "all_gaps(yard)", "can_go(yard, lot)",
             "can_come(yard, lot)", "open_lots(yard)", "count_open(yard)", "only_open(yard, lot)"],
    "traps": ["is_trap(yard, rooms)", "traps(yard)", "least_traps(yard)", "greatest_trap(yard)",
              "least_trap_with(yard, room)", "walls_around(yard, rooms)", "cures(yard)"],
    "ways": ["ways(yard, number)", "shortest_way(yard, number)", "least_back(yard, number)",
             "greatest_back(yard, number)", "places(yard, number)", "always_ahead(yard, one, other)",
             "gates(yard, number)", "last_gate(yard, number)", "gate_table(yard)", "hanging_on(yard, number)",
             "free_ones(yard)", "both_first(yard, one, other)"],
    "counts": ["count_orders(yard)", "order_at(yard, rank)", "rank_of(yard, order)", "next_order(yard, order)",
               "place_counts(yard, number)", "mean_place(yard, number)", "ahead_chance(yard, one, other)",
               "swaps(yard, order)"],
    "sameness": ["same_orders(one, other)", "orders_lost(yard, number, side)", "tight(yard)", "loose(yard)",
                 "added(yard, walls)", "taken_out(yard, number)", "orders_without(yard, number)",
                 "fewest_added(yard)", "least_added(yard)"],
    "spans": ["cutters(yard, order)", "tree_of(yard, order)", "room_order(yard, order)", "is_span(yard, lot)",
              "spans(yard)", "count_spans(yard)", "orders_with_span(yard, lot)", "room_orders(yard)",
              "count_room_orders(yard)", "orders_of_rooms(yard, rooms)"],
    "trees": ["is_tree(yard)", "hanging(yard)", "tree_orders(yard)", "tree_gate(yard, number)",
              "first_chance(yard, number)", "order_of_tree(yard, order)", "tree_cost(yard, weights)"],
    "dues": ["delay(yard, order, dues)", "least_delay(yard, dues)", "due_order(yard, dues)", "in_time(yard, dues)",
             "least_cost(yard, weights)", "cheap_order(yard, weights)", "count_cheap(yard, weights)"],
    "days": ["is_plan(yard, days)", "fewest_days(yard, masons)", "masons_for(yard, days)", "late_plan(yard)",
             "tree_days(yard, masons)", "widest(yard)", "room_depths(yard)"],
    "windows": ["orders_within(yard, windows)", "first_within(yard, windows)", "walls_at(yard, place)",
                "place_table(yard)"],
    "walks": ["walk_length(yard, order, room)", "mason_rooms(yard, order, room)", "least_walk(yard, room)",
              "short_order(yard, room)", "walks_well(yard, order, room)", "least_start(yard)", "has_walk(yard, room)",
              "stays_put(yard, order)"],
    "outsides": ["is_order_with(yard, order, ends)", "ends_of(yard, order)", "good_ends(yard)",
                 "has_order_at(yard, end)", "team_can(yard, order, ends)", "has_team(yard, ends)",
                 "count_team_orders(yard, ends)", "least_teams(yard)", "fewest_masons(yard)"],
    "luck": ["first_moves(yard, room)", "luck(yard, room)", "warmth(yard, order)", "least_warmth(yard)",
             "greatest_warmth(yard)", "cool_order(yard)"],
    "growths": ["growth_chance(yard, order)", "open_chance(yard, lot)", "last_chance(yard, number)",
                "likeliest(yard)", "why_not(yard, order)", "sides_used(yard, number)"],
    "choices": ["with_sides(yard, sides)", "turned(yard, lot)", "sides_of_yard(yard)", "count_holding(yard)",
                "choices(yard)", "count_choices(yard)", "is_holding(yard, lot)", "chance_of_order(yard, chance)",
                "fewest_changes(yard)", "change_lots(yard)"],
    "closing": ["cut_off(yard, order, room)", "cut_times(yard, order)", "never_joined(yard)",
                "least_cut(yard, room)", "greatest_cut(yard, room)", "cut_together(yard, one, other)",
                "last_cut(yard, order)", "room_gates(yard, room)", "rooms_between(yard, room)"],
    "rings": ["is_ringless(yard)", "is_round(yard)", "can_be_round(yard)", "ringless_choices(yard)",
              "round_choices(yard)", "count_ringless(yard)", "count_round(yard)", "round_rooms(yard)",
              "bridges(yard)"],
    "duels": ["builder_wins(yard, mover)", "good_starts(yard, mover)", "duel_table(yard)"],
    "texts": ["write_yard(yard)", "write_order(yard, order)", "read_yard(text)", "read_order(yard, text)"],
    "glue": ["beside(one, other)", "onto(one, other, room)", "renamed(yard, rooms)", "parts(yard)",
             "part_yards(yard)"],
    "likes": ["alike(one, other)", "count_alike(yard)", "symmetries(yard)", "classes(yard)", "fixed_rooms(yard)",
              "first_like(yard)", "swaps_between(yard, one, other)", "unlike_pairs(yard, one, other)"],
}

SITE = ["__init__(self, yard, room)", "walk(self, room)", "put(self, number)", "undo(self)", "can_finish(self)",
        "safe(self)"]

LIBRARY = {"math": {"factorial", "gcd"}, "itertools": {"combinations", "permutations"}}


def trees():
    return [(path, ast.parse(path.read_text())) for path in sorted(PACKAGE.glob("*.py"))]


def defined(path):
    """The names that a file itself gives to functions, classes and values."""
    names = set()
    for part in ast.parse(path.read_text()).body:
        if isinstance(part, ast.Assign):
            names.update(target.id for target in part.targets)
        elif isinstance(part, (ast.FunctionDef, ast.ClassDef)):
            names.add(part.name)
    return names


class Interface(unittest.TestCase):
    def test_names_and_arguments(self):
        for name, told in INTERFACE.items():
            module = import_module(f"walledin.{name}")
            for row in told:
                function = getattr(module, row.partition("(")[0])
                self.assertEqual(function.__module__, module.__name__)
                self.assertEqual(function.__name__ + str(inspect.signature(function)), row)

    def test_site(self):
        module = import_module("walledin.sites")
        kept = vars(module.Site)
        self.assertEqual([module.Site.__module__, str(inspect.signature(module.Site))],
                         [module.__name__, "(yard, room)"])
        for row in SITE:
            function = kept[row.partition("(")[0]]
            self.assertEqual(function.__name__ + str(inspect.signature(function)), row)
        for name in ("gaps", "done", "room", "undoable"):
            self.assertIsInstance(kept[name], property)


class Files(unittest.TestCase):
    def test_folder(self):
        names = [path.name for path in PACKAGE.iterdir() if path.name != "__pycache__"]
        self.assertTrue(all(name.endswith(".py") and name == name.lower() for name in names), names)
        self.assertIn("__init__.py", names)

    def test_sizes_and_characters(self):
        for path in sorted(PACKAGE.glob("*.py")):
            text = path.read_text()
            lines = text.split("\n")
            self.assertLess(len(lines), 400, path.name)
            self.assertLessEqual(max(len(line) for line in lines), 120, path.name)
            self.assertTrue(all(" " <= sign <= "~" or sign == "\n" for sign in text), path.name)
            self.assertNotIn("_" + "wall", text.replace("_walls", ""), path.name)

    def test_functions_are_short(self):
        for path, tree in trees():
            for node in ast.walk(tree):
                if isinstance(node, ast.FunctionDef):
                    self.assertLessEqual(node.end_lineno - node.lineno, 39, f"{path.name}: {node.name}")
                    names = [part.id for part in node.decorator_list]
                    self.assertIn(names, ([], ["property"]), f"{path.name}: {node.name}")

    def test_imports(self):
        for path, tree in trees():
            for node in ast.walk(tree):
                self.assertNotIsInstance(node, ast.Import, path.name)
                if not isinstance(node, ast.ImportFrom):
                    continue
                names = {alias.name for alias in node.names}
                if node.module in LIBRARY:
                    self.assertLessEqual(names, LIBRARY[node.module], path.name)
                    continue
                folder, _, name = node.module.partition(".")
                self.assertEqual(folder, "walledin", path.name)
                self.assertLessEqual(names, defined(PACKAGE / f"{name}.py"), path.name)

    def test_no_name_has_two_meanings(self):
        for path, tree in trees():
            imported = {alias.name for node in ast.walk(tree) if isinstance(node, ast.ImportFrom)
                        for alias in node.names}
            bound = {node.id for node in ast.walk(tree)
                     if isinstance(node, ast.Name) and isinstance(node.ctx, ast.Store)}
            bound |= {node.arg for node in ast.walk(tree) if isinstance(node, ast.arg)}
            bound |= {node.name for node in ast.walk(tree) if isinstance(node, (ast.FunctionDef, ast.ClassDef))}
            self.assertFalse(bound & imported, path.name)
            read = {node.id for node in ast.walk(tree) if isinstance(node, ast.Name)}
            self.assertLessEqual(imported, read, path.name)
            self.assertFalse(bound & set(dir(builtins)), path.name)

    def test_no_floats_sets_or_try(self):
        barred = (ast.Try, ast.Set, ast.SetComp, ast.Div, ast.Global, ast.With, ast.AsyncFunctionDef, ast.Await)
        for path, tree in trees():
            for node in ast.walk(tree):
                self.assertNotIsInstance(node, barred, path.name)
                self.assertFalse(isinstance(node, ast.Constant) and isinstance(node.value, float), path.name)


if __name__ == "__main__":
    unittest.main()
