"""Promises [211] to [214]: the desk."""

import unittest

from tallyhull.alikes import least_form, reach_same
from tallyhull.boxes import boxes
from tallyhull.cheapest import first_solution, optimum, second_solution
from tallyhull.cones import faces, facets
from tallyhull.costs import alike_costs, parting_side
from tallyhull.desk import Desk
from tallyhull.graver import circuits, graver_list
from tallyhull.hilbert import hilbert_list
from tallyhull.holeboxes import kind_of_side, stops_of_hole
from tallyhull.holes import fundamental_holes, low_part
from tallyhull.joins import needed_sides
from tallyhull.lattices import null_basis, side_index
from tallyhull.losses import greatest_loss, loss_of
from tallyhull.moves import go_down
from tallyhull.optima import fraction_optimum
from tallyhull.relaxed import best_bound, exact_cells
from tallyhull.siderows import row_law
from tallyhull.solutions import column_range, solution_number
from tallyhull.staircases import cells
from tallyhull.testsets import is_test_set, least_test_set
from tallyhull.texts import list_text, matrix_text, moves_text, ratio_text, tuple_text
from tallyhull.turns import breaks
from tests.fibers import LISTED, costs_for
from tests.samples import GAPPED, SLOPED, TWISTED, image_by_hand, sides_near
from tests.test_alikes import SAME
from tests.test_cheapest import NEAR

EXAMPLE = [("matrix a 1 1 1 / 0 1 2", "2 3"), ("tuple c 0 0 1", "ok"), ("testset t a c", "1"),
           ("show t", "1 0 1 > 0 2 0"), ("tuple b 2 2", "ok"), ("first a c b", "0 2 0"), ("best a c b", "0"),
           ("greatest a c", "0"), ("kind a x", "unknown x")]
# Each command with what it wants, in the words of [211].
TABLE = """matrix N U; tuple N U; moves N M C U; testset N M C; drop A; show A; pointed M; index M; null M;
    graver M; circuits M; facets M; faces M; kind M V; low M V; isset M C L; goes M C L V; first M C V;
    second M C V; best M C V; fraction M C V; loss M C V; greatest M C; boxes M C; cells M C; holes M;
    stops M V; count M V; range M V X; needed M; alike M C D; parts M C D; hilbert M; breaks M C D;
    rowlaw M C V D; bound M C V; exact M C V; reach M M; form M"""
COMMANDS = [line.split() for line in TABLE.split(";")]


def word_for(kind):
    """A name, or another word, as it is wanted; the names are those of `filled`."""
    return {"N": "n", "M": "m", "C": "c", "D": "d", "V": "v", "L": "l", "A": "m", "X": "1"}[kind]


def filled():
    """A desk with a matrix, two costs, a side that is a vector, too, and a list of moves."""
    desk = Desk()
    for line in ["matrix m 1 1 1 / 0 1 2 / 0 0 0", "tuple c 0 0 1", "tuple d 0 1 0", "tuple v 2 2 0", "testset l m c"]:
        desk.answer(line)
    return desk


def state(desk):
    return {name: desk.thing(name) for name in desk.names()}


class Lines(unittest.TestCase):
    """[211] and [213]: each line of the table"""

    def check(self, desk, lines):
        for line, told in lines:
            self.assertEqual(desk.answer(line), told, line)

    def desk_for(self, matrix, costs, side):
        desk = Desk()
        self.assertEqual(desk.answer("matrix m " + matrix_text(matrix)), f"{len(matrix)} {len(matrix[0])}")
        for name, numbers in zip("cdv", (*costs, side)):
            self.assertEqual(desk.answer(f"tuple {name} {tuple_text(numbers)}"), "ok")
        return desk

    def test_against_the_functions(self):
        def yes(truth):
            return "yes" if truth else "no"

        def told(value):
            return "none" if value is None else tuple_text(value) if isinstance(value, tuple) else str(value)
        for matrix in LISTED[::3] + [GAPPED, SLOPED, ((2, 3),)]:
            costs = costs_for(matrix)[1:3]
            cost, other = costs
            side = image_by_hand(matrix, tuple(k % 2 for k in range(len(cost))))
            desk = self.desk_for(matrix, costs, side)
            moves = least_test_set(matrix, cost)
            loss = "refused" if first_solution(matrix, cost, side) is None else ratio_text(loss_of(matrix, cost, side))
            fraction = fraction_optimum(matrix, cost, side)
            self.check(desk, [
                ("show m", matrix_text(matrix)), ("show v", tuple_text(side)), ("testset t m c", str(len(moves))),
                ("show t", moves_text(matrix, cost, moves)), ("pointed m", "weight"), ("index m", told(side_index(matrix))),
                ("null m", list_text(null_basis(matrix))), ("graver m", list_text(graver_list(matrix))),
                ("circuits m", list_text(circuits(matrix))), ("facets m", list_text(facets(matrix))),
                ("faces m", str(len(faces(matrix)))), ("kind m v", kind_of_side(matrix, side)),
                ("low m v", tuple_text(low_part(matrix, side)[0])), ("isset m c t", "yes"),
                ("first m c v", told(first_solution(matrix, cost, side))),
                ("second m c v", told(second_solution(matrix, cost, side))), ("best m c v", told(optimum(matrix, cost, side))),
                ("fraction m c v", ratio_text(fraction)), ("loss m c v", loss),
                ("greatest m c", ratio_text(greatest_loss(matrix, cost))), ("boxes m c", str(len(boxes(matrix, cost)))),
                ("cells m c", list_text(cells(matrix, cost))), ("holes m", list_text(fundamental_holes(matrix))),
                ("count m v", told(solution_number(matrix, side))), ("range m v 0", told(column_range(matrix, side, 0))),
                ("alike m c d", yes(alike_costs(matrix, cost, other))), ("alike m c c", "yes"),
                ("hilbert m", list_text(hilbert_list(matrix))), ("bound m c v", told(best_bound(matrix, cost, side))),
                ("exact m c v", list_text(exact_cells(matrix, cost, side))), ("reach m m", "yes"),
                ("form m", list_text(least_form(matrix))),
                ("breaks m c d", " ".join(ratio_text(one) for one in breaks(matrix, cost, other)) or "empty"),
                ("needed m", list_text([one for one, _ in needed_sides(matrix)]))])
            part = parting_side(matrix, cost, other)
            self.assertEqual(desk.answer("parts m c d") == "none", part is None)
            for hole in fundamental_holes(matrix)[:2]:
                self.check(desk, [(f"tuple h {tuple_text(hole)}", "ok"),
                                  ("stops m h", list_text(stops_of_hole(matrix, hole)))])
            desk.answer("tuple x " + tuple_text(tuple(2 for _ in cost)))
            self.check(desk, [("goes m c t x", tuple_text(go_down(matrix, cost, moves, (2,) * len(cost))[0]))])

    def test_sides_of_all_kinds(self):
        for matrix, cost in [(GAPPED, (0, 0, 1)), (((2, 4),), (1, 1)), (SLOPED, (1, 2))]:
            for side in sides_near(matrix, NEAR[len(matrix)])[::9]:
                desk = self.desk_for(matrix, (cost, cost), side)
                kind = kind_of_side(matrix, side)
                first = first_solution(matrix, cost, side)
                fraction = fraction_optimum(matrix, cost, side)
                self.check(desk, [
                    ("kind m v", kind), ("first m c v", "none" if first is None else tuple_text(first)),
                    ("best m c v", "none" if first is None else str(optimum(matrix, cost, side))),
                    ("fraction m c v", "none" if fraction is None else ratio_text(fraction)),
                    ("count m v", str(solution_number(matrix, side)))])
                self.assertEqual(desk.answer("loss m c v") == "refused", kind != "solved")
                self.assertEqual(desk.answer("low m v") == "refused", kind in ("outside", "rest"))
                self.assertEqual(desk.answer("range m v 1") == "none", kind != "solved")

    def test_told(self):
        desk = Desk()
        self.check(desk, EXAMPLE + [
            ("matrix g 1 1 1 / 0 1 3", "2 3"), ("holes g", "1 2"), ("tuple h 1 2", "ok"), ("stops g h", "0 1 0 / 1 0 0"),
            ("kind g h", "hole"), ("low g h", "1 2"), ("low a b", "0 0"), ("stops g b", "refused"), ("first g c h", "none"),
            ("second a c b", "1 0 1"), ("second g c h", "none"), ("best g c h", "none"), ("fraction g c h", "1/2"),
            ("loss g c h", "refused"), ("loss a c b", "0"), ("greatest g c", "1/2"), ("cells a c", "0 1 / 1 2"),
            ("boxes a c", "2"), ("null a", "1 -2 1"), ("graver a", "1 -2 1"), ("circuits a", "1 -2 1"),
            ("facets a", "0 1 / 2 -1"), ("faces a", "4"), ("index a", "1"), ("pointed a", "weight"), ("count a b", "2"),
            ("range a b 0", "0 1"), ("range a b 1", "0 2"), ("range a b 2", "0 1"), ("range a b 3", "refused"),
            ("range g h 0", "none"), ("needed a", "2 2"), ("tuple d 0 1 0", "ok"), ("alike a c d", "no"),
            ("parts a c d", "2 2"), ("alike a c c", "yes"), ("parts a c c", "none"), ("hilbert g", "1 0 / 1 1 / 1 2 / 1 3"),
            ("bound a c b", "0"), ("exact a c b", "0 1 / 1 2"), ("reach a g", "no"), ("reach a a", "yes"),
            ("matrix r 1 -2", "1 2"), ("pointed r", "ring"), ("graver r", "refused"), ("index r", "1"), ("null r", "2 1"),
            ("holes r", "refused"), ("matrix f 1 2 / 2 4", "2 2"), ("index f", "none"), ("matrix o 3", "1 1"),
            ("null o", "empty"), ("graver o", "empty"), ("circuits o", "empty"), ("holes o", "empty"), ("needed o", "empty"),
            ("tuple z 5", "ok"), ("testset e o z", "0"), ("show e", "empty"), ("isset o z e", "yes"), ("breaks o z z", "empty"),
            ("matrix k 2 3", "1 2"), ("tuple p 1 1", "ok"), ("tuple q -1 0", "ok"), ("breaks k p q", "1/3"),
            ("tuple y 0", "ok"), ("tuple s 1", "ok"), ("rowlaw k p y s", "2 3"), ("greatest k p", "2/3"),
            ("bound k p s", "1"), ("exact k p s", "empty"), ("tuple u 4", "ok"), ("exact k p u", "1"), ("loss k p u", "2/3"),
            ("fraction k p u", "4/3"), ("matrix j 9 8 / 1 9", "2 2"), ("form j", "1 9 / 0 73"), ("form k", "2 3"),
            ("tuple w 3", "ok"), ("bound f p b", "none"), ("exact f p b", "empty"), ("low f b", "refused"), ("kind f b", "outside")])

    def test_several_breaks(self):
        desk = Desk()
        self.check(desk, [("matrix a 1 1 1", "1 3"), ("tuple c 3 2 1", "ok"), ("tuple d 0 1 3", "ok"),
                          ("breaks a c d", "1/2 1"), ("breaks a d c", "1 2")])

    def test_the_same_up_to_a_change(self):
        desk = Desk()
        for name, matrix in zip("ab", SAME):
            desk.answer(f"matrix {name} {matrix_text(matrix)}")
        self.assertEqual(desk.answer("form a"), desk.answer("form b"))
        self.assertEqual(desk.answer("reach a b"), "yes" if reach_same(*SAME) else "no")

    def test_lists_of_moves(self):
        desk = filled()
        self.check(desk, [
            ("moves n m c 1 0 1 > 0 2 0", "1"), ("show n", "1 0 1 > 0 2 0"), ("isset m c n", "yes"),
            ("moves n m c 1 0 1 > 0 2 0 / 2 0 2 > 0 4 0", "2"), ("show n", "1 0 1 > 0 2 0 / 2 0 2 > 0 4 0"),
            ("moves n m c 2 0 2 > 0 4 0", "1"), ("isset m c n", "no"), ("moves n m c empty", "0"), ("show n", "empty"),
            ("isset m c n", "no"), ("moves n m d 0 2 0 > 1 0 1", "1"), ("isset m d n", "yes"), ("isset m c n", "refused"),
            ("tuple x 3 1 2", "ok"), ("goes m c l x", "1 5 0"), ("goes m d n x", "3 1 2"), ("goes m c n x", "refused"),
            ("tuple y 3 1", "ok"), ("goes m c l y", "refused"), ("tuple y 3 1 -2", "ok"), ("goes m c l y", "refused")])

    def test_texts_of_moves_stay(self):
        # As they stand, whatever matrix and cost they were put for.
        desk = filled()
        told = desk.answer("show l")
        self.check(desk, [("tuple c 0 1 0", "ok"), ("show l", told), ("isset m c l", "refused"), ("matrix m 1", "1 1"),
                          ("show l", told), ("drop m", "ok"), ("drop c", "ok"), ("show l", told)])

    def test_what_is_put_takes_the_place(self):
        texts = {"matrix n 1 2": "1 2", "tuple n 5": "5", "moves n m c 1 0 1 > 0 2 0": "1 0 1 > 0 2 0",
                 "testset n m d": "0 2 0 > 1 0 1", "tuple n": "", "moves n m c empty": "empty"}
        for line in texts:
            for other, text in texts.items():
                desk = filled()
                desk.answer(line)
                desk.answer(other)
                self.assertEqual(desk.answer("show n"), text)
                self.assertEqual(desk.names(), ["c", "d", "l", "m", "n", "v"])
        # A name may be that of what it is made of.
        desk = filled()
        self.check(desk, [("testset m m c", "1"), ("show m", "1 0 1 > 0 2 0"), ("pointed m", "refused")])

    def test_drop(self):
        desk = filled()
        for name in "mcl":
            self.check(desk, [(f"drop {name}", "ok"), (f"drop {name}", f"unknown {name}"), (f"show {name}", f"unknown {name}")])
        self.assertEqual(desk.names(), ["d", "v"])


class Bad(unittest.TestCase):
    """[212]: lines that are bad, unknown or refused"""

    def check_unchanged(self, desk, line, told):
        before = state(desk)
        self.assertEqual(desk.answer(line), told, line)
        self.assertEqual(state(desk), before)

    def test_all_commands_are_there(self):
        for command, *kinds in COMMANDS:
            desk = filled()
            words = [command] + [word_for(kind) for kind in kinds if kind != "U"]
            if command == "matrix":
                words.append("1")
            if command == "moves":
                words.append("empty")
            told = desk.answer(" ".join(words))
            self.assertFalse(told == "bad" or told.startswith("unknown"), words)
            # The side of `filled` is no hole.
            self.assertEqual(told == "refused", command == "stops", words)

    def test_too_few_and_too_many_words(self):
        for command, *kinds in COMMANDS:
            desk = filled()
            words = [command] + [word_for(kind) for kind in kinds if kind != "U"]
            for k in range(1, len(words)):
                self.check_unchanged(desk, " ".join(words[:k]), "bad")
            if "U" not in kinds:
                self.check_unchanged(desk, " ".join(words + ["m"]), "bad")
                self.check_unchanged(desk, " ".join(words + ["1", "2"]), "bad")

    def test_names_that_are_none(self):
        for command, *kinds in COMMANDS:
            words = [command] + [word_for(kind) for kind in kinds if kind != "U"]
            for k, kind in enumerate([kind for kind in kinds if kind != "U"], start=1):
                for wrong in ["A", "a1", "1", "abcdefghijklm", "-", "a-b", "m.", "/"] if kind != "X" else [
                        "00", "07", "100", "-1", "x", "1.", "+1"]:
                    desk = filled()
                    self.check_unchanged(desk, " ".join(words[:k] + [wrong] + words[k + 1:]), "bad")
                    # It is bad also where another word names nothing.
                    self.check_unchanged(desk, " ".join([word if j in (0, k) or kind == "X" else "zz" for j, word in
                                                         enumerate(words[:k] + [wrong] + words[k + 1:])]), "bad")

    def test_malformed_lines(self):
        for line in ["", " ", " show m", "show m ", "show  m", "show\tm", "show m\n", "\xe4", "Show m", "SHOW m", "shows m",
                     "sho m", "m", "matrix", "tuple", "help", "show m m", "tuple a  1", "matrix a 1  2", "matrix a 1 ", "1", "/"]:
            self.check_unchanged(filled(), line, "bad")
        self.check_unchanged(filled(), "tuple n \u0661", "bad")

    def test_names_that_name_nothing(self):
        for command, *kinds in COMMANDS:
            wanted = [kind for kind in kinds if kind != "U"]
            words = [command] + [word_for(kind) for kind in wanted]
            asked = [k for k, kind in enumerate(wanted, start=1) if kind not in "NX"]
            for at, k in enumerate(asked):
                told = words[:k] + ["xx"] + words[k + 1:]
                self.check_unchanged(filled(), " ".join(told), "unknown xx")
                for j in asked[at + 1:]:
                    self.check_unchanged(filled(), " ".join(told[:j] + ["yy"] + told[j + 1:]), "unknown xx")
            # A name that is not there yet is told even where another one has something else.
            for k in asked[1:]:
                other = words[:k] + ["xx"] + words[k + 1:]
                other[asked[0]] = "l"
                self.check_unchanged(filled(), " ".join(other), "unknown xx")

    def test_other_things_than_the_table_wants(self):
        things = {"M": "m", "C": "c", "D": "d", "V": "v", "L": "l"}
        for command, *kinds in COMMANDS:
            wanted = [kind for kind in kinds if kind != "U"]
            words = [command] + [word_for(kind) for kind in wanted]
            for k, kind in enumerate(wanted, start=1):
                for other, name in things.items():
                    same = kind == other or (kind in "CDV" and other in "CDV")
                    if kind not in "NAX" and not same:
                        told = " ".join(words[:k] + [name] + words[k + 1:])
                        self.check_unchanged(filled(), told + (" empty" if command == "moves" else ""), "refused")

    def test_errors_of_the_operations(self):
        lines = ["matrix n", "matrix n 1 2 / 3", "matrix n 10", "matrix n x", "matrix n 1 /", "matrix n 01", "matrix n 1 1 1 1 1 1 1",
                 "tuple n x", "tuple n 1 /", "tuple n -0", "tuple n 123456789012345678901", "tuple n 1.5", "moves n m c",
                 "moves n m c x", "moves n m c 1 0 1 > 0 2", "moves n m c 0 2 0 > 1 0 1", "moves n m c 1 0 1 > 0 2 0 / 1 0 1 > 0 2 0",
                 "moves n m v 1 0 1 > 0 2 1", "range m v 3", "range m v 99", "stops m v", "testset n m w", "testset n r c",
                 "graver r", "circuits r", "facets r", "faces r", "kind r c", "kind m s", "low m o", "low m s", "isset m d l",
                 "isset m w l", "goes m c l s", "first m c s", "first m w v", "first r c v", "second m c s", "best m c s",
                 "fraction m c s", "loss m c o", "greatest m w", "boxes m w", "cells r c", "holes r", "count m s", "count m g",
                 "needed r", "alike m c w", "alike r c d", "parts m w c", "hilbert r", "breaks m c w", "rowlaw m c s v",
                 "rowlaw m c v s", "bound m c s", "exact m w v", "reach m r", "reach m k", "graver b", "testset n b z"]
        for line in lines:
            desk = filled()
            for other in ["matrix r 1 -1 0 / 0 1 -1 / 1 0 -1", "tuple w 51 0 0", "tuple s 1 1", "tuple o 0 1 0", "matrix k 2 3",
                          "tuple g 61 0 0", "matrix b 9 8 7 6 5 4", "tuple z 0 0 0 0 0 0"]:
                self.assertNotIn(desk.answer(other), ("bad", "refused"))
            self.check_unchanged(desk, line, "refused")

    def test_costs_are_looked_at_by_the_operation(self):
        desk = Desk()
        for line, told in [("tuple c 100 200", "ok"), ("matrix a 2 3", "1 2"), ("boxes a c", "refused"), ("tuple b 7", "ok"),
                           ("kind a b", "solved"), ("kind a c", "refused"), ("tuple e", "ok"), ("kind a e", "refused"),
                           ("show e", ""), ("tuple long " + "9 " * 40 + "9", "ok"), ("show long", "9 " * 40 + "9")]:
            self.assertEqual(desk.answer(line), told, line)


class Things(unittest.TestCase):
    """Desk(), answers, names, thing"""

    def test_a_new_desk(self):
        desk = Desk()
        self.assertEqual(desk.names(), [])
        self.assertIsNone(desk.thing("a"))
        self.assertEqual(desk.answers([]), [])

    def test_answers(self):
        desk = Desk()
        lines = [line for line, _ in EXAMPLE]
        found = desk.answers(lines)
        self.assertIsInstance(found, list)
        self.assertEqual(found, [told for _, told in EXAMPLE])
        self.assertEqual(lines, [line for line, _ in EXAMPLE])

    def test_names_and_things(self):
        desk = filled()
        self.assertEqual(desk.names(), ["c", "d", "l", "m", "v"])
        self.assertEqual(desk.thing("m"), ((1, 1, 1), (0, 1, 2), (0, 0, 0)))
        self.assertEqual(desk.thing("c"), (0, 0, 1))
        self.assertEqual(desk.thing("l"), [((1, 0, 1), (0, 2, 0))])
        self.assertIsInstance(desk.thing("l"), list)
        for name in ("x", "", "M", "c d", "cc"):
            self.assertIsNone(desk.thing(name))
        desk.answer("tuple aa")
        self.assertEqual(desk.thing("aa"), ())
        self.assertEqual(desk.names()[0], "aa")
        desk.answer("moves l m c empty")
        self.assertEqual(desk.thing("l"), [])

    def test_desks_are_apart(self):
        one, other = filled(), Desk()
        other.answer("tuple c 5")
        self.assertEqual(one.thing("c"), (0, 0, 1))
        self.assertEqual(other.names(), ["c"])

    def test_fresh_lists(self):
        desk = filled()
        for function, arguments in [(desk.names, ()), (desk.thing, ("l",)), (desk.answers, (["show m", "pointed m"],))]:
            once = function(*arguments)
            kept = list(once)
            once.clear()
            self.assertTrue(kept)
            self.assertEqual(function(*arguments), kept)
        self.assertEqual(desk.answer("show l"), "1 0 1 > 0 2 0")


class Example(unittest.TestCase):
    """[214]"""

    def test_the_example(self):
        desk = Desk()
        for line, told in EXAMPLE:
            self.assertEqual(desk.answer(line), told)
        self.assertEqual(row_law(((2, 3),), (1, 1), (0,), (1,))[:2], (2, 3))
        self.assertTrue(is_test_set(TWISTED, (0, 1, 1, 0), least_test_set(TWISTED, (0, 1, 1, 0))))


if __name__ == "__main__":
    unittest.main()
