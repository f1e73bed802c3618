"""The head of the interface, and the conventions that hold for all modules: [0.1] to [0.7]."""

import importlib
import inspect
import unittest

from sidesigns.errors import InvalidNumber, InvalidOperation, InvalidRow, InvalidTable
from sidesigns.best.programs import Program
from sidesigns.desk.desk import Desk
from sidesigns.rows.rows import Lot, all_rows, laid_over, signs_at, spread, turned
from sidesigns.system.rounds import bases_of, cuts_of, is_rounds_paper, rank_of, rounds_paper, taken_out
from sidesigns.system.systems import System
from sidesigns.table.tables import Table, determinant
from sidesigns.web.webs import Web
from support import error_of, told_by

FUNCTIONS = {
    "sidesigns.rows.rows": {
        "turned": "row, things=None", "laid_over": "one, other", "apart": "one, other", "is_upright": "one, other",
        "things_of": "row", "zeros_of": "row", "signs_at": "row, things", "spread": "row, things, many",
        "all_rows": "many"},
    "sidesigns.table.tables": {"determinant": "rows"},
    "sidesigns.system.rounds": {
        "rounds_paper": "lot", "is_rounds_paper": "lot, value", "taken_out": "lot, one, other, thing, *, kept=None",
        "bases_of": "lot", "rank_of": "lot", "cuts_of": "lot"},
    "sidesigns.system.judging": {
        "views_paper": "lot", "regions_paper": "lot", "signs_paper": "many, rank, text", "is_views_paper": "lot, value",
        "is_regions_paper": "lot, value", "is_signs_paper": "many, rank, text, value", "system_of_views": "lot",
        "system_of_regions": "lot", "system_of_signs": "many, rank, text"},
    "sidesigns.system.paintings": {
        "painted": "system, painting", "is_painted": "system, painting, value", "paintings": "many, *, letters='acos'",
        "pair_paper": "rounds, cuts", "is_pair_paper": "rounds, cuts, value", "in_table": "table, painting",
        "is_in_table": "table, painting, value"},
    "sidesigns.system.forms": {
        "led": "system, order, things", "led_row": "row, order, things", "back_change": "change",
        "joined_changes": "change, other", "parts_of": "system", "form_of": "system", "least_form": "system",
        "form_paper": "one, other", "is_form_paper": "one, other, value", "own_changes": "system", "own_count": "system"},
    "sidesigns.region.regions": {
        "two_numbers": "system", "flat_sums": "system", "region_count": "system", "bounded_count": "system",
        "bounded_regions": "system, thing", "walls": "system, region", "parting_things": "system, one, other",
        "steps": "system, one, other", "is_steps": "system, one, other, value", "region_web": "system",
        "system_of_web": "neighbours"},
    "sidesigns.hull.hulls": {
        "hull": "system, things", "corners": "system, things", "hull_paper": "system, things, thing",
        "is_hull_paper": "system, things, thing, value", "convex_lots": "system", "free_lots": "system",
        "free_sums": "system", "inner_things": "system", "faces": "system", "face_counts": "system",
        "holders": "system, things, thing", "parted": "system, one, other", "is_parted": "system, one, other, value"},
    "sidesigns.best.programs": {"table_answer": "table, far, goal"},
    "sidesigns.more.putting": {
        "lines_of": "system", "line_ring": "system, line", "line_paper": "system, signs",
        "is_line_paper": "system, signs, value", "put_in": "system, signs", "signs_of_thing": "system, thing",
        "by_steps": "system, steps", "through": "system, one, other", "all_ways": "system"},
    "sidesigns.place.general": {
        "can_turn": "system, base", "turned_base": "system, base", "turn_paper": "system, base",
        "is_turn_paper": "system, base, value", "simplexes": "system", "turning_row": "one, other",
        "sign_tables": "many, rank", "table_count": "many, rank"},
    "sidesigns.web.twoelements": {
        "reduced": "many, rows", "rounds_over_two": "many, rows", "cuts_over_two": "many, rows", "signed_paper": "many, rows",
        "is_signed_paper": "many, rows, value", "signing_count": "many, rows"},
    "sidesigns.order.activities": {
        "inner": "system, order, base", "outer": "system, order, base", "active_counts": "system, order",
        "row_active": "system, order, row", "best_base": "system, order, region", "region_of": "system, order, base",
        "best_bases": "system, order", "is_best": "system, order, region, value"},
    "sidesigns.draw.drawings": {
        "is_drawn_by": "system, table", "comparisons": "system", "weights_or_bar": "system, *, only=None",
        "is_weights": "system, value, *, only=None", "is_bar": "system, value", "points_of": "system"},
    "sidesigns.draw.rings": {
        "ring_of": "system", "system_of_ring": "many, ring", "is_ring": "many, value", "ring_count": "many",
        "does_balance": "many, ring, things", "ring_faces": "many, ring", "alternating": "many, rank",
        "is_gap_even": "many, things", "even_lots": "many, size"},
    "sidesigns.text.strings": {"write_value": "value", "read_value": "string"},
}
GENERATORS = {"all_rows", "paintings", "own_changes", "convex_lots", "free_lots", "all_ways", "sign_tables"}
METHODS = {
    ("sidesigns.rows.rows", "Lot"): {
        "__init__": "self, many, rows=()", "least": "self", "with_turned": "self", "turned_at": "self, things",
        "layings": "self", "uprights": "self"},
    ("sidesigns.table.tables", "Table"): {
        "__init__": "self, many, rows", "seen": "self, weights", "round_sum": "self, row", "cut_weights": "self, row",
        "upright_table": "self", "is_alike": "self, other"},
    ("sidesigns.system.systems", "System"): {
        "__init__": "self, rounds", "views": "self", "regions": "self", "sign": "self, order", "round_of": "self, base, thing",
        "cut_of": "self, base, thing", "rank_of": "self, things", "flat_of": "self, things", "flats": "self",
        "turned_at": "self, things", "left_out": "self, things", "shrunk": "self, things", "renamed": "self, order"},
    ("sidesigns.best.programs", "Program"): {
        "__init__": "self, system, far, goal", "feasible": "self", "answer": "self", "is_answer": "self, value",
        "starts": "self", "crossings": "self, base", "opposite": "self"},
    ("sidesigns.web.webs", "Web"): {
        "__init__": "self, places, ways", "pieces": "self", "turned_ways": "self, things", "way_paper": "self, way",
        "is_way_paper": "self, way, value", "ringless_paper": "self", "is_ringless_paper": "self, value",
        "around_paper": "self", "is_around_paper": "self, value", "ringless_count": "self", "around_count": "self"},
    ("sidesigns.desk.desk", "Desk"): {
        "__init__": "self, many", "keep": "self, name, item", "turn": "self, things", "drop": "self, name",
        "promise": "self, label, promise", "let_go": "self, label", "undo": "self, *, times=1", "redo": "self, *, times=1",
        "during": "self, call", "item": "self, name", "promised": "self, label", "broken_by": "self, name, item",
        "twin": "self"},
}
CLASS_METHODS = {("sidesigns.system.systems", "System"): {"of_cuts": "cuts", "of_table": "table", "free": "many"}}
PROPERTIES = {
    ("sidesigns.rows.rows", "Lot"): ("many", "rows", "is_even"),
    ("sidesigns.table.tables", "Table"): ("many", "rows", "rank", "signs", "rounds", "cuts"),
    ("sidesigns.system.systems", "System"): ("many", "rank", "rounds", "cuts", "signs", "bases", "loops", "pillars", "alike",
                                             "is_simple", "is_open", "is_general"),
    ("sidesigns.best.programs", "Program"): ("system", "far", "goal", "sides"),
    ("sidesigns.web.webs", "Web"): ("places", "ways", "system"),
    ("sidesigns.desk.desk", "Desk"): ("many", "names", "labels", "deeds"),
}
OPERATORS = {
    ("sidesigns.rows.rows", "Lot"): ("__len__", "__iter__", "__contains__", "__eq__", "__or__", "__and__", "__sub__",
                                     "__str__"),
    ("sidesigns.table.tables", "Table"): ("__len__", "__getitem__", "__iter__", "__eq__", "__str__"),
    ("sidesigns.system.systems", "System"): ("__invert__", "__add__", "__eq__", "__len__", "__str__"),
    ("sidesigns.best.programs", "Program"): ("__eq__", "__str__"),
    ("sidesigns.web.webs", "Web"): ("__eq__", "__len__", "__str__"),
    ("sidesigns.desk.desk", "Desk"): ("__contains__", "__len__", "__eq__", "__str__"),
}
CONSTANTS = {
    "sidesigns.rows.rows": {"MAX_THINGS": 9, "MAX_LAYINGS": 7000, "MAX_UPRIGHT": 7},
    "sidesigns.table.tables": {"MAX_ROWS": 9},
    "sidesigns.system.systems": {"MAX_VIEWS": 7000},
    "sidesigns.system.judging": {"MAX_JUDGED": 1500},
    "sidesigns.system.paintings": {"MAX_PAIR_ROWS": 600},
    "sidesigns.system.forms": {"MAX_FORMED": 6},
    "sidesigns.region.regions": {"MAX_REGIONS": 512},
    "sidesigns.more.putting": {"MAX_PAIRS": 15},
    "sidesigns.place.general": {"MAX_ROW": 5, "MAX_COUNTED": 6},
    "sidesigns.web.webs": {"MAX_PLACES": 8, "MAX_WAYS": 9, "MAX_AMOUNT": 100},
    "sidesigns.web.twoelements": {"MAX_ROWS": 9},
    "sidesigns.draw.drawings": {"MAX_COMPARED": 210},
    "sidesigns.draw.rings": {"MAX_FORMED": 9},
    "sidesigns.desk.desk": {"MAX_KEPT": 12, "MAX_PROMISES": 12},
}


def member(place):
    module, name = place
    return getattr(importlib.import_module(module), name)


class NamesTest(unittest.TestCase):
    def test_functions(self):
        for name, functions in FUNCTIONS.items():
            module = importlib.import_module(name)
            for function, expected in functions.items():
                call = getattr(module, function)
                self.assertTrue(inspect.isfunction(call))
                self.assertEqual((call.__module__, call.__name__), (name, function))
                self.assertEqual(str(inspect.signature(call)), f"({expected})")
                self.assertIs(inspect.isgeneratorfunction(call), function in GENERATORS)

    def test_methods(self):
        for place, methods in METHODS.items():
            cls = member(place)
            self.assertEqual((cls.__module__, cls.__name__), place)
            for name, expected in methods.items():
                self.assertEqual(str(inspect.signature(vars(cls)[name])), f"({expected})")
            for name in OPERATORS[place]:
                self.assertIn(name, vars(cls))

    def test_class_methods(self):
        for place, methods in CLASS_METHODS.items():
            for name, expected in methods.items():
                self.assertIs(vars(member(place))[name].__class__, classmethod)
                self.assertEqual(str(inspect.signature(getattr(member(place), name))), f"({expected})")

    def test_properties(self):
        objects = {"Lot": Lot(2), "Table": Table(2, ()), "System": System.free(2), "Program": Program(System.free(2), 0, 1),
                   "Web": Web(2, ((0, 1),)), "Desk": Desk(2)}
        for place, names in PROPERTIES.items():
            for name in names:
                self.assertIn(name, vars(member(place)))
                self.assertFalse(callable(getattr(objects[place[1]], name)))

    def test_constants(self):
        for name, constants in CONSTANTS.items():
            for constant, value in constants.items():
                self.assertEqual(getattr(importlib.import_module(name), constant), value)


class ConventionsTest(unittest.TestCase):
    def test_integers_of_sixty_digits(self):
        """[0.1]: sixty digits are the most that is passed."""
        for most in (10 ** 60 - 1, 1 - 10 ** 60):
            self.assertEqual(determinant(((most,),)), most)
            self.assertEqual(Table(1, ((most,),)).rank, 1)
            self.assertEqual(Table(1, ((2,),)).seen((most,)), "+" if most > 0 else "-")
        for long in (10 ** 60, -10 ** 60, 10 ** 99):
            for call, kind in ((lambda: determinant(((long,),)), InvalidTable), (lambda: Table(1, ((long,),)), InvalidTable),
                               (lambda: Table(1, ((2,),)).seen((long,)), InvalidOperation),
                               (lambda: turned("+", (long,)), InvalidOperation),
                               (lambda: Lot(2).turned_at((long,)), InvalidOperation)):
                self.assertEqual(error_of(call).__class__, kind)
            for call in (lambda: Lot(long), lambda: Table(long, ()), lambda: spread("+", (0,), long),
                         lambda: next(all_rows(long)), lambda: Table(1, ((1,),))[long]):
                self.assertEqual(told_by(error_of(call)), (InvalidNumber, long))

    def test_true_and_false_are_no_integers(self):
        """[0.1], in every place that takes an integer."""
        for value in (True, False):
            for call in (lambda: Lot(value), lambda: Table(value, ()), lambda: next(all_rows(value)),
                         lambda: spread("", (), value), lambda: Table(1, ((1,), (2,)))[value],
                         lambda: taken_out(Lot(2, ("++", "--")), "++", "--", value),
                         lambda: taken_out(Lot(2, ("++", "--")), "++", "--", 0, kept=value)):
                error = error_of(call)
                self.assertEqual(told_by(error), (InvalidNumber, value))
                self.assertIs(error.value, value)
            for call, kind in ((lambda: determinant(((value,),)), InvalidTable), (lambda: Table(1, ((value,),)), InvalidTable),
                               (lambda: turned("++", (value,)), InvalidOperation),
                               (lambda: signs_at("++", (value,)), InvalidOperation),
                               (lambda: spread("+", (value,), 3), InvalidOperation),
                               (lambda: Lot(2).turned_at((value,)), InvalidOperation),
                               (lambda: Table(1, ((1,),)).seen((value,)), InvalidOperation)):
                self.assertEqual(error_of(call).__class__, kind)

    def test_lists_in_the_place_of_tuples(self):
        for call, kind in ((lambda: turned("++", [0]), InvalidOperation), (lambda: signs_at("++", []), InvalidOperation),
                           (lambda: spread("+", [0], 3), InvalidOperation), (lambda: laid_over(["+"], "+"), InvalidRow),
                           (lambda: Table(1, [(1,)]), InvalidTable), (lambda: Table(1, ([1],)), InvalidTable),
                           (lambda: determinant([(1,)]), InvalidTable), (lambda: determinant([]), InvalidTable),
                           (lambda: Table(1, ((1,),)).seen([1]), InvalidOperation),
                           (lambda: Lot(1).turned_at([]), InvalidOperation)):
            self.assertEqual(error_of(call).__class__, kind)

    def test_arguments_stay(self):
        """[0.2]: what can change and is judged or refused is not changed."""
        lists = [["+-0"], [[1, 2]], {"a": [1]}, [("rounds",)]]
        copies = [["+-0"], [[1, 2]], {"a": [1]}, [("rounds",)]]
        lot, table = Lot(3, ("+-0", "-+0")), Table(3, ((1, 2, 3),))
        for value in lists:
            is_rounds_paper(lot, value)
            is_rounds_paper(lot, ("within", value, value))
            for call in (lambda: Lot(3, value), lambda: Table(3, value), lambda: turned("+", value),
                         lambda: table.seen(value), lambda: lot | value, lambda: value in lot, lambda: lot == value):
                error_of(call)
        self.assertEqual(lists, copies)
        self.assertEqual((lot.rows, table.rows), (("+-0", "-+0"), ((1, 2, 3),)))

    def test_equal_calls_give_equal_results(self):
        calls = (lambda: turned("+-0", (1,)), lambda: list(all_rows(4)), lambda: Lot(3, ("+-0", "0+-")).layings(),
                 lambda: Table(4, ((1, 2, 3, 4), (5, 6, 7, 9))).upright_table(), lambda: rounds_paper(Lot(2, ("+0", "0+"))),
                 lambda: bases_of(Lot(3, ("+-0", "-+0"))), lambda: cuts_of(Lot(3, ("+-0", "-+0"))),
                 lambda: rank_of(Lot(3)))
        for call in calls:
            self.assertEqual(call(), call())

    def test_results_are_tuples(self):
        table = Table(3, ((1, 2, 3), (2, 4, 6)))
        for value in (table.rows, table.upright_table().rows, table.upright_table().rows[0], table.round_sum("+-0"),
                      table.cut_weights("+++"), bases_of(table.rounds), bases_of(table.rounds)[0],
                      rounds_paper(table.rounds), Lot(2, ("+0",)).rows):
            self.assertIs(value.__class__, tuple)


if __name__ == "__main__":
    unittest.main()
