"""The form of the package: the rules of LANGUAGE.md that can be read off its code."""

import ast
import builtins
import io
import re
import tokenize
import unittest
import warnings
from pathlib import Path

FOLDER = Path(__file__).resolve().parent.parent / "tallyhull"
FILES = sorted(FOLDER.glob("*.py"))

INTERFACE = {
    "matrices": [
        "is_matrix(matrix)", "check_matrix(matrix)", "is_side(matrix, side)",
        "check_side(matrix, side)", "is_vector(matrix, vector)", "check_vector(matrix, vector)",
        "is_cost(matrix, cost)", "check_cost(matrix, cost)", "columns(matrix)",
        "image(matrix, vector)", "is_solution(matrix, side, vector)",
        "price(matrix, cost, vector)", "comes_before(matrix, cost, one, other)",
        "is_weight(matrix, row)", "is_ring(matrix, vector)", "pointed_answer(matrix)",
        "is_pointed_answer(matrix, answer)", "is_pointed(matrix)", "check_pointed(matrix)"],
    "hermite": [
        "stairs(vectors)", "rank(vectors)", "is_stairs(vectors)", "coordinates(vectors, vector)",
        "orthogonal(vectors, many)"],
    "lattices": [
        "side_basis(matrix)", "side_index(matrix)", "null_basis(matrix)",
        "null_coordinates(matrix, vector)", "lattice_answer(matrix, side)",
        "is_rest_paper(matrix, side, row, m)", "is_lattice_answer(matrix, side, answer)"],
    "cones": [
        "equations(matrix)", "fixed_places(matrix)", "rank_of(matrix)", "facets(matrix)",
        "faces(matrix)", "is_face(matrix, columns)", "rays(matrix)", "is_in_cone(matrix, side)",
        "face_of(matrix, side)"],
    "farkas": [
        "farkas_paper(matrix, side)", "is_farkas_paper(matrix, side, row)", "bases(matrix)",
        "first_base(matrix, side)", "fraction_solution(matrix, side)",
        "is_fraction_solution(matrix, side, numbers)"],
    "signs": [
        "is_below(one, other)", "parts(vector)", "opposite(vector)", "headed(vector)",
        "support(vector)", "down(vectors, vector)"],
    "graver": [
        "graver_list(matrix)", "is_dependence(matrix, vector)",
        "is_graver_paper(matrix, vectors)", "in_graver_list(matrix, vector)", "circuits(matrix)",
        "sum_of(matrix, vector)", "walk(matrix, one, other)"],
    "moves": [
        "is_move(matrix, cost, move)", "check_moves(matrix, cost, moves)",
        "move_of(matrix, cost, vector)", "stands(matrix, cost, move, vector)",
        "led(matrix, cost, move, vector)", "go_down(matrix, cost, moves, vector)",
        "walked(matrix, cost, moves, vector, chain)"],
    "meetings": [
        "meetings(matrix, cost, moves)", "is_good(matrix, cost, moves, i, j)",
        "bad_meeting(matrix, cost, moves)", "walk_between(matrix, cost, moves, one, other)",
        "connects(matrix, cost, moves)"],
    "testsets": [
        "graver_moves(matrix, cost)", "is_test_set(matrix, cost, moves)",
        "test_fault(matrix, cost, moves)", "least_test_set(matrix, cost)",
        "is_least(matrix, cost, moves)", "test_paper(matrix, cost, moves)",
        "is_test_paper(matrix, cost, moves, paper)", "completed(matrix, cost, moves)"],
    "staircases": [
        "corners(matrix, cost)", "is_free(matrix, cost, places)", "free_sets(matrix, cost)",
        "cells(matrix, cost)", "cell_weight(matrix, places)"],
    "boxes": [
        "boxes(matrix, cost)", "is_box(matrix, box)", "in_box(matrix, box, vector)",
        "is_standard(matrix, cost, box)", "vector_in(matrix, box, side)",
        "first_by_boxes(matrix, cost, side)", "is_box_list(matrix, cost, found)"],
    "cheapest": [
        "is_first(matrix, cost, vector)", "first_from(matrix, cost, vector)",
        "first_solution(matrix, cost, side)", "optimum(matrix, cost, side)",
        "reduced_prices(matrix, cost, side)", "rivals(matrix, cost, side)",
        "second_solution(matrix, cost, side)"],
    "answers": [
        "side_answer(matrix, cost, side)", "is_side_answer(matrix, cost, side, answer)",
        "shows(answer)", "same_side(matrix, cost, one, other)"],
    "posts": [
        "posts(matrix, cost)", "feet(matrix, cost)", "stays_below(matrix, cost, row)",
        "idle_columns(matrix, cost)"],
    "holes": [
        "low_sides(matrix)", "fundamental_holes(matrix)", "is_normal(matrix)",
        "low_part(matrix, side)"],
    "holeboxes": [
        "stops_of_hole(matrix, hole)", "hole_boxes(matrix)", "is_solved(matrix, side)",
        "is_hole(matrix, side)", "kind_of_side(matrix, side)", "hole_paper(matrix, side)",
        "is_hole_paper(matrix, side, paper)", "endless_hole(matrix)", "all_holes(matrix)"],
    "optima": [
        "fraction_optimum(matrix, cost, side)", "posts_at(matrix, cost, side)",
        "optimum_paper(matrix, cost, side)", "is_optimum_paper(matrix, cost, side, paper)"],
    "losses": [
        "loss_of(matrix, cost, side)", "box_loss(matrix, cost, box)", "box_losses(matrix, cost)",
        "side_losing(matrix, cost, number)", "greatest_loss(matrix, cost)",
        "is_lossless(matrix, cost)", "loss_paper(matrix, cost)",
        "is_loss_paper(matrix, cost, paper)"],
    "coins": [
        "least_row(coins)", "is_payable(coins, amount)", "gaps(coins)", "gap_count(coins)",
        "greatest_gap(coins)", "last_gaps(coins)", "is_even_handed(coins)"],
    "solutions": [
        "solutions(matrix, side)", "solution_number(matrix, side)",
        "column_range(matrix, side, column)", "is_walk(matrix, one, other, steps)"],
    "joins": [
        "joins_side(matrix, moves, side)", "joins_all(matrix, moves)", "unjoined(matrix, moves)",
        "needed_sides(matrix)", "least_joining(matrix)"],
    "costs": [
        "alike_costs(matrix, cost, other)", "parting_side(matrix, cost, other)",
        "cost_classes(matrix, costs)"],
    "alikes": [
        "least_columns(matrix)", "reach_same(one, other)", "reach_difference(one, other)",
        "row_form(matrix)", "least_form(matrix)", "change_between(one, other)",
        "is_change(one, other, order, change)"],
    "certificates": [
        "pointed_shown(matrix, answer)", "lattice_shown(matrix, side, answer)",
        "cone_shown(matrix, side, answer)", "graver_shown(matrix, vectors)",
        "papers_shown(matrix, cost, papers)", "side_shown(matrix, cost, side, papers, answer)",
        "optimum_shown(matrix, cost, side, paper)",
        "loss_shown(matrix, cost, papers, paper, optimum)", "walk_shown(matrix, vectors, walk)"],
    "texts": [
        "ratio_text(number)", "list_text(tuples)", "tuple_text(numbers)", "read_tuple(text)",
        "matrix_text(matrix)", "read_matrix(text)", "moves_text(matrix, cost, moves)",
        "read_moves(matrix, cost, text)"],
    "lines": ["words_of(line)", "is_name(word)", "number_in(word)"],
    "siderows": [
        "row_values(matrix, cost, start, step, n)", "row_law(matrix, cost, start, step)",
        "value_by_law(rule, k)", "solved_times(matrix, cost, start, step)"],
    "hilbert": [
        "is_full(matrix, side)", "is_least_side(matrix, side)", "hilbert_list(matrix)",
        "missing_sides(matrix)", "spare_columns(matrix)", "full_sum(matrix, side)",
        "is_hilbert_paper(matrix, sides)", "with_missing(matrix)"],
    "journal": ["attempt(journal, lines, *, keep=False)", "resume(text)"],
    "reached": [
        "strides(matrix, weight)", "solved_top(matrix, weight)", "inner_top(matrix, weight)",
        "hole_top(matrix, weight)", "solved_numbers(matrix, weight, n)",
        "inner_numbers(matrix, weight, n)", "hole_numbers(matrix, weight, n)",
        "last_level(matrix, weight)"],
    "bounds": [
        "excess(matrix, bounds, vector)", "step_within(matrix, cost, bounds, vector)",
        "down_within(matrix, cost, bounds, vector)", "step_below(matrix, bounds, vector)",
        "down_below(matrix, bounds, vector)", "first_within(matrix, cost, bounds, side)",
        "bound_answer(matrix, cost, bounds, side)",
        "is_bound_answer(matrix, cost, bounds, side, answer)",
        "walk_within(matrix, bounds, one, other)"],
    "turns": [
        "test_set_at(matrix, cost, turn, number)", "breaks(matrix, cost, turn)",
        "turning_list(matrix, cost, turn)", "first_at(matrix, cost, turn, number, vector)",
        "least_slopes(matrix, cost, turn, vector)"],
    "relaxed": [
        "class_vectors(matrix, cost, cell)", "relaxed_first(matrix, cost, cell, side)",
        "relaxed_optimum(matrix, cost, cell, side)", "is_exact(matrix, cost, cell, side)",
        "best_bound(matrix, cost, side)", "exact_cells(matrix, cost, side)"],
}
CLASSES = {
    "desk": {"Desk": ["answer(self, line)", "answers(self, lines)", "names(self)", "thing(self, name)"]},
    "journal": {"Journal": ["answer(self, line)", "record(self)", "lines(self)", "keep(self)",
                            "__enter__(self)", "__exit__(self, kind, value, trace)"]},
}

BUILTINS = set("""len range enumerate zip min max sum abs sorted reversed int str bool bytes list
    tuple dict set isinstance ord any all divmod map ValueError super""".split())
METHODS = set("""append clear copy count endswith extend find get index insert isalnum isalpha
    isdigit items join keys lower lstrip pop remove replace reverse rfind rstrip setdefault split
    splitlines startswith strip update upper values zfill bit_length __init__""".split())
LIBRARY = {"math": {"gcd", "lcm", "isqrt"}, "itertools": {"combinations", "permutations", "product"},
           "heapq": {"heappop", "heappush"}}
BARRED = set("""mro elements open input law register type typing enum Enum Flag Generic Protocol
    ABC namedtuple dataclass overload contextmanager eval exec global float complex round hash
    print""".split())
STATEMENTS = (ast.FunctionDef, ast.ClassDef, ast.Import, ast.ImportFrom, ast.Assign, ast.Expr)


ITERATORS = {"range", "zip", "enumerate", "reversed", "map", "items", "keys", "values"}
ITERATING = set("""list tuple dict sorted sum any all min max enumerate zip len reversed
    combinations permutations product""".split())


GENERATING = set("list tuple dict sorted sum min max any all join".split())
KEYWORDS = {"sorted": ("key", "reverse"), "min": ("key", "default"), "max": ("key", "default"),
            "sum": ("start",), "enumerate": ("start",), "zip": ("strict",)}


def tree_of(path):
    return ast.parse(path.read_text(encoding="utf-8"))


PARSED = [(path, tree_of(path)) for path in FILES]


def called_name(call):
    """The name of what is called, that of a method without its object."""
    return getattr(call.func, "id", None) or getattr(call.func, "attr", None)


def functions_in(tree):
    return [node for node in ast.walk(tree) if isinstance(node, ast.FunctionDef)]


def defined_in(tree):
    """The functions, classes and plain values of a file."""
    named = {node.name for node in tree.body if isinstance(node, (ast.FunctionDef, ast.ClassDef))}
    return named | {target.id for node in tree.body if isinstance(node, ast.Assign)
                    for target in node.targets}


def methods_in(tree):
    return [function for node in tree.body if isinstance(node, ast.ClassDef)
            for function in functions_in(node) if function.name != "__init__"]


OWN_METHODS = {function.name for _, tree in PARSED for function in methods_in(tree)}
VALUES = (0, "", b"", [], (), {}, set())


def bound_in(function):
    """The parameters and local variables of a function."""
    names = {argument.arg for argument in ast.walk(function) if isinstance(argument, ast.arg)}
    return names | {node.id for node in ast.walk(function)
                    if isinstance(node, ast.Name) and isinstance(node.ctx, ast.Store)}


class Form(unittest.TestCase):

    def test_the_folder(self):
        others = [path.name for path in FOLDER.iterdir()
                  if path.suffix != ".py" and path.name != "__pycache__"]
        self.assertEqual(others, [])
        self.assertIn("__init__.py", [path.name for path in FILES])
        for path in FILES:
            self.assertRegex(path.stem, r"^[a-z][a-z0-9_]*$|^__init__$")

    def test_lines_and_signs(self):
        for path in FILES:
            text = path.read_text(encoding="utf-8")
            self.assertRegex(text, r"\A[ -~\n]*\Z", path.name)
            lines = text.splitlines()
            self.assertLessEqual(len(lines), 399, path.name)
            self.assertLessEqual(max(map(len, lines)), 120, path.name)
            with warnings.catch_warnings():
                warnings.simplefilter("error")
                compile(text, str(path), "exec")

    def test_functions_are_short(self):
        for path, tree in PARSED:
            with self.subTest(path.name):
                for function in functions_in(tree):
                    size = function.end_lineno - function.lineno + 1
                    self.assertLessEqual(size, 40, function.name)
                    self.assertEqual(function.decorator_list, [])

    def test_module_level(self):
        for path, tree in PARSED:
            with self.subTest(path.name):
                for node in tree.body:
                    self.assertIsInstance(node, STATEMENTS)
                    if isinstance(node, ast.Assign):
                        self.assertEqual(len(node.targets), 1)
                        self.check_plain(node.value, [other.name for other in tree.body
                                                      if isinstance(other, ast.FunctionDef)
                                                      and other.lineno < node.lineno])
                    if isinstance(node, ast.Expr):
                        self.assertIs(node, tree.body[0])

    def check_plain(self, value, functions):
        """A plain value, or a dict of plain keys and of functions that are defined above."""
        if isinstance(value, ast.Dict) and any(isinstance(part, ast.Name) for part in value.values):
            for key, part in zip(value.keys, value.values):
                ast.literal_eval(key)
                self.assertIn(part.id, functions)
        else:
            ast.literal_eval(value)

    def test_imports(self):
        defined = {path.stem: defined_in(tree) for path, tree in PARSED}
        for path, tree in PARSED:
            with self.subTest(path.name):
                for node in ast.walk(tree):
                    self.assertNotIsInstance(node, ast.Import)
                    if not isinstance(node, ast.ImportFrom):
                        continue
                    self.assertIn(node, tree.body)
                    self.assertEqual(node.level, 0)
                    for alias in node.names:
                        self.assertIsNone(alias.asname)
                        if node.module in LIBRARY:
                            self.assertIn(alias.name, LIBRARY[node.module])
                        else:
                            package, module = node.module.split(".")
                            self.assertEqual(package, "tallyhull")
                            self.assertIn(alias.name, defined[module])

    def test_no_circle_of_imports(self):
        wanted = {path.stem: {node.module.split(".")[-1] for node in tree_of(path).body
                              if isinstance(node, ast.ImportFrom)
                              and node.module.startswith("tallyhull")} for path in FILES}
        while wanted:
            ready = [name for name, needs in wanted.items() if not needs & set(wanted)]
            self.assertTrue(ready, sorted(wanted))
            for name in ready:
                del wanted[name]

    def test_what_is_imported_is_used_and_not_covered(self):
        for path, tree in PARSED:
            with self.subTest(path.name):
                imported = [alias.name for node in tree.body if isinstance(node, ast.ImportFrom)
                            for alias in node.names]
                self.assertEqual(len(imported), len(set(imported)))
                used = {node.id for node in ast.walk(tree)
                        if isinstance(node, ast.Name) and isinstance(node.ctx, ast.Load)}
                classes = {node.name for node in tree.body if isinstance(node, ast.ClassDef)}
                self.assertEqual(set(imported) - used, set())
                for function in functions_in(tree):
                    self.assertEqual(bound_in(function) & (set(imported) | classes), set())

    def test_builtins(self):
        every = set(dir(builtins))
        for path, tree in PARSED:
            with self.subTest(path.name):
                for node in ast.walk(tree):
                    if isinstance(node, ast.Name) and node.id in every:
                        self.assertIn(node.id, BUILTINS)
                        self.assertIsInstance(node.ctx, ast.Load)
                    if isinstance(node, (ast.FunctionDef, ast.ClassDef)):
                        self.assertNotIn(node.name, every)
                    if isinstance(node, ast.arg):
                        self.assertNotIn(node.arg, every)

    def test_methods_numbers_and_signs(self):
        for path, tree in PARSED:
            with self.subTest(path.name):
                for node in ast.walk(tree):
                    if isinstance(node, ast.Call) and isinstance(node.func, ast.Attribute):
                        self.assertIn(node.func.attr, METHODS | OWN_METHODS)
                    if isinstance(node, ast.Constant):
                        self.assertNotIsInstance(node.value, (float, complex))
                        self.assertNotIn("%", str(node.value))
                    self.assertNotIsInstance(node, (ast.Div, ast.AsyncFunctionDef, ast.Global, ast.Await,
                                                    ast.Set, ast.SetComp, ast.AnnAssign))
                    if isinstance(node, ast.Compare):
                        for sign, other in zip(node.ops, node.comparators):
                            if isinstance(sign, (ast.Is, ast.IsNot)):
                                self.assertIn(getattr(other, "value", 0), (None, True, False))

    def test_names_of_methods_and_attributes(self):
        taken = {name for value in VALUES for name in dir(value)}
        self.assertEqual(OWN_METHODS & taken, set())
        for path, tree in PARSED:
            with self.subTest(path.name):
                given = {node.attr for node in ast.walk(tree)
                         if isinstance(node, ast.Attribute) and isinstance(node.ctx, ast.Store)}
                self.assertEqual(given & (taken | OWN_METHODS), set())
                for node in ast.walk(tree):
                    if isinstance(node, ast.ClassDef):
                        names = [function.name for function in functions_in(node)]
                        self.assertEqual(len(names), len(set(names)), node.name)

    def test_ranges_and_views_are_iterated_at_once(self):
        for path, tree in PARSED:
            with self.subTest(path.name):
                spots = {id(node.iter) for node in ast.walk(tree)
                         if isinstance(node, (ast.For, ast.comprehension))}
                spots |= {id(other) for node in ast.walk(tree) if isinstance(node, ast.Compare)
                          for other in node.comparators}
                for node in ast.walk(tree):
                    if isinstance(node, ast.Call) and isinstance(node.func, ast.Name):
                        if node.func.id in ITERATING:
                            spots |= {id(value) for value in node.args}
                for node in ast.walk(tree):
                    if isinstance(node, ast.Call) and called_name(node) in ITERATORS:
                        self.assertIn(id(node), spots, f"row {node.lineno}")

    def test_stars_in_calls(self):
        # Behind a star stands a name, or an attribute of a name.
        for path, tree in PARSED:
            for node in ast.walk(tree):
                if isinstance(node, ast.Call):
                    for value in node.args:
                        if isinstance(value, ast.Starred):
                            self.assertIsInstance(value.value, (ast.Name, ast.Attribute), f"{path.name} {node.lineno}")
                    self.assertFalse([word for word in node.keywords if word.arg is None])

    def test_generator_expressions(self):
        # They stand in a builtin that iterates them at once, beside names and literals only.
        for path, tree in PARSED:
            with self.subTest(path.name):
                every = {id(node) for node in ast.walk(tree) if isinstance(node, ast.GeneratorExp)}
                for node in ast.walk(tree):
                    if isinstance(node, ast.Call) and called_name(node) in GENERATING:
                        for value in node.args:
                            if isinstance(value, ast.GeneratorExp):
                                every.discard(id(value))
                                others = [other for other in node.args if other is not value]
                                others += [word.value for word in node.keywords]
                                self.assertTrue(all(isinstance(other, (ast.Name, ast.Constant, ast.Lambda))
                                                    for other in others))
                self.assertEqual(every, set())

    def test_keywords_of_builtins(self):
        for path, tree in PARSED:
            own = {name for _, other in PARSED for name in defined_in(other)} | OWN_METHODS
            for node in ast.walk(tree):
                if isinstance(node, ast.Call) and called_name(node) not in own:
                    for word in node.keywords:
                        self.assertIn(word.arg, KEYWORDS.get(called_name(node), ()), f"{path.name} {node.lineno}")

    def test_how_many_are_combined(self):
        # The number is a parameter, a literal, or a name over a range.
        for path, tree in PARSED:
            for function in functions_in(tree):
                plain = {argument.arg for argument in ast.walk(function) if isinstance(argument, ast.arg)}
                plain |= {node.target.id for node in ast.walk(function)
                          if isinstance(node, (ast.For, ast.comprehension)) and isinstance(node.target, ast.Name)
                          and isinstance(node.iter, ast.Call) and called_name(node.iter) == "range"}
                for node in ast.walk(function):
                    if isinstance(node, ast.Call) and called_name(node) in ("combinations", "permutations"):
                        for value in node.args[1:]:
                            if not isinstance(value, ast.Constant):
                                self.assertIn(getattr(value, "id", None), plain, f"{path.name} {node.lineno}")

    def test_a_loop_does_not_change_what_it_goes_over(self):
        for path, tree in PARSED:
            with self.subTest(path.name):
                for loop in ast.walk(tree):
                    if isinstance(loop, ast.For):
                        over = {ast.unparse(node) for node in ast.walk(loop.iter)
                                if isinstance(node, (ast.Name, ast.Attribute))}
                        for call in ast.walk(ast.Module(loop.body, [])):
                            if isinstance(call, ast.Call) and isinstance(call.func, ast.Attribute):
                                if call.func.attr in ("append", "extend", "pop", "clear", "insert"):
                                    self.assertNotIn(ast.unparse(call.func.value), over)

    def test_barred_words(self):
        for path in FILES:
            text = path.read_text(encoding="utf-8")
            for word in tokenize.generate_tokens(io.StringIO(text).readline):
                if word.type == tokenize.NAME:
                    self.assertNotIn(word.string, BARRED, path.name)
                    self.assertFalse(re.match(r"_wall|_pe_|_cold|_outside|_record", word.string))

    def test_docstrings_and_annotations(self):
        for path, tree in PARSED:
            with self.subTest(path.name):
                self.assertIsNotNone(ast.get_docstring(tree))
                for function in functions_in(tree):
                    self.assertIsNone(function.returns)
                    if function.name != "__init__":
                        self.assertIsNotNone(ast.get_docstring(function), function.name)

    def test_the_interface(self):
        for module, wanted in INTERFACE.items():
            found = {node.name: ast.unparse(node.args)
                     for node in tree_of(FOLDER / f"{module}.py").body
                     if isinstance(node, ast.FunctionDef)}
            for head in wanted:
                name, arguments = head[:-1].split("(")
                with self.subTest(module, name=name):
                    self.assertEqual(found.get(name), arguments)

    def test_the_classes_of_the_interface(self):
        for module, classes in CLASSES.items():
            found = {node.name: {f"{function.name}({ast.unparse(function.args)})"
                                 for function in functions_in(node)}
                     for node in tree_of(FOLDER / f"{module}.py").body if isinstance(node, ast.ClassDef)}
            for name, wanted in classes.items():
                self.assertLessEqual(set(wanted), found[name])

    def test_the_end_of_a_with(self):
        # What stands in __exit__ are tests and assignments of attributes and plain values.
        for path, tree in PARSED:
            for function in functions_in(tree):
                if function.name == "__exit__":
                    for node in ast.walk(function):
                        self.assertNotIsInstance(node, (ast.Call, ast.Subscript, ast.For, ast.Raise))
                        if isinstance(node, ast.Assign):
                            self.assertIsInstance(node.value, (ast.Attribute, ast.Constant))


if __name__ == "__main__":
    unittest.main()
