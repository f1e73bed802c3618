"""What the document promises over the whole program, and what joins its stages."""

import copy
import unittest
from itertools import permutations, product

from sidesigns.best.programs import Program
from sidesigns.desk.desk import Desk
from sidesigns.draw.drawings import comparisons, is_bar, is_drawn_by, is_weights, points_of, weights_or_bar
from sidesigns.draw.rings import (alternating, does_balance, even_lots, is_gap_even, is_ring, ring_faces, ring_of,
                                  system_of_ring)
from sidesigns.errors import InvalidNumber, InvalidOperation, InvalidOrder, InvalidRow, InvalidSystem, InvalidTable
from sidesigns.hull.hulls import convex_lots, corners, faces, hull, hull_paper, is_hull_paper, is_parted, parted
from sidesigns.more.putting import by_steps, is_line_paper, line_paper, lines_of, put_in, signs_of_thing
from sidesigns.order.activities import active_counts, best_base, best_bases, inner, is_best, outer, region_of, row_active
from sidesigns.place.general import can_turn, is_turn_paper, simplexes, turn_paper, turned_base
from sidesigns.region.regions import (bounded_count, bounded_regions, flat_sums, is_steps, parting_things, region_count,
                                      region_web, steps, system_of_web, two_numbers, walls)
from sidesigns.rows.rows import Lot, laid_over
from sidesigns.system.forms import form_paper, is_form_paper, led, led_row, least_form, own_count, parts_of
from sidesigns.system.judging import (is_regions_paper, is_signs_paper, is_views_paper, system_of_regions,
                                      system_of_signs, system_of_views)
from sidesigns.system.paintings import in_table, is_in_table, is_painted, is_pair_paper, painted, paintings
from sidesigns.system.rounds import is_rounds_paper, rounds_paper
from sidesigns.system.systems import System
from sidesigns.table.tables import Table
from sidesigns.text.strings import read_value, write_value
from sidesigns.web.twoelements import cuts_over_two, is_signed_paper, reduced, rounds_over_two, signed_paper, signing_count
from sidesigns.web.webs import Web
from support import POOL, curve, error_of, has, small_tables, variants
from worlds import DRAWN, FIVE, FOUR, LINE, PLANE, SIX, TINY, all_things, eight

SEVEN = ((1, 0, 0, 1, 1, 0, 1), (0, 1, 0, 1, 0, 1, 1), (0, 0, 1, 0, 1, 1, 1))
RING = Web(4, ((0, 1), (1, 2), (2, 0), (2, 3)))
TABLE = Table(4, ((1, 0, 3, -1), (0, 1, -1, 1)))
EIGHT = eight()
# Systems, each with a change of names and signs.
CHANGED = [(system, tuple(order), things) for at, system in enumerate(TINY + FOUR[::3] + FIVE[::8] + [LINE, PLANE])
           for order in list(permutations(range(system.many)))[at % 5::29] for things in all_things(system.many)[at % 3::7]]


def thing_led(order, thing):
    return order.index(thing)


def things_led(order, things):
    return tuple(sorted(order.index(thing) for thing in things))


class JudgesTest(unittest.TestCase):
    def judges(self):
        """For each function and method that judges a value: a call, and right values."""
        signs = by_steps(LINE, ((0, "+"),))
        program = Program(LINE, 0, 3)
        looked = comparisons(LINE)
        return [
            (lambda value: is_rounds_paper(LINE.rounds, value), [rounds_paper(LINE.rounds)]),
            (lambda value: is_views_paper(LINE.views(), value), [("views",)]),
            (lambda value: is_regions_paper(LINE.regions(), value), [("regions",)]),
            (lambda value: is_signs_paper(4, 2, "++++-+", value), [("products", (), (0, 1, 2, 3))]),
            (lambda value: is_painted(LINE, "rssa", value), [painted(LINE, "rssa")]),
            (lambda value: is_pair_paper(LINE.rounds, LINE.cuts, value), [("pair",)]),
            (lambda value: is_in_table(TABLE, "rsso", value), [in_table(TABLE, "rsso")]),
            (lambda value: is_form_paper(LINE, LINE, value), [form_paper(LINE, LINE)]),
            (lambda value: is_steps(LINE, "++++", "++--", value), [steps(LINE, "++++", "++--")]),
            (lambda value: is_hull_paper(PLANE, (0, 2), 4, value), [hull_paper(PLANE, (0, 2), 4)]),
            (lambda value: is_parted(PLANE, (0, 2), (1, 3), value), [parted(PLANE, (0, 2), (1, 3))]),
            (program.is_answer, [program.answer()]),
            (lambda value: is_line_paper(LINE, signs, value), [line_paper(LINE, signs)]),
            (lambda value: is_turn_paper(LINE, (0, 1), value), [turn_paper(LINE, (0, 1))]),
            (lambda value: is_turn_paper(LINE, (0, 2), value), [turn_paper(LINE, (0, 2))]),
            (lambda value: RING.is_way_paper(0, value), [RING.way_paper(0)]),
            (RING.is_ringless_paper, [RING.ringless_paper()]),
            (RING.is_around_paper, [RING.around_paper()]),
            (lambda value: is_signed_paper(3, ((1, 1, 0), (1, 0, 1)), value), [signed_paper(3, ((1, 1, 0), (1, 0, 1)))]),
            (lambda value: is_signed_paper(7, SEVEN, value), [signed_paper(7, SEVEN)]),
            (lambda value: is_best(LINE, (0, 1, 2, 3), "++--", value), [(0, 2)]),
            (lambda value: is_weights(LINE, value), [weights_or_bar(LINE)[1]]),
            (lambda value: is_weights(LINE, value, only=looked[:1]), [weights_or_bar(LINE)[1]]),
            (lambda value: is_bar(EIGHT, value), [weights_or_bar(EIGHT, only=comparisons(EIGHT)[::3][:210])[1]]),
            (lambda value: is_ring(4, value), [ring_of(LINE)]),
        ]

    def test_true_or_false_for_each_value(self):
        """[0.5], and what is returned is accepted [0.6]."""
        for judge, right in self.judges():
            for value in right:
                self.assertIs(judge(value), True)
                for other in variants(value)[::1 + len(variants(value)) // 300]:
                    before = repr(other)
                    self.assertIn(judge(other), (True, False))
                    self.assertIs(judge(other).__class__, bool)
                    self.assertEqual(repr(other), before)
                self.assertIs(judge(copy.deepcopy(value)), True)
            for value in POOL:
                for other in (value, (value,), (value, value), [value], {"x": value}):
                    self.assertIs(judge(other).__class__, bool)

    def test_other_functions_that_tell_whether(self):
        for call in (lambda: can_turn(LINE, (0, 1)), lambda: is_drawn_by(LINE, TABLE), lambda: is_gap_even(3, ()),
                     lambda: does_balance(4, ring_of(LINE), ()), lambda: LINE.is_open, lambda: LINE.rounds.is_even):
            self.assertIs(call().__class__, bool)


class ErrorsTest(unittest.TestCase):
    def test_the_first_wrong_argument_decides(self):
        """[0.4], for calls in which all arguments are wrong at once."""
        cases = (
            (lambda value: can_turn(value, value), InvalidSystem), (lambda value: inner(value, value, value), InvalidSystem),
            (lambda value: inner(LINE, value, value), InvalidOrder),
                 (lambda value: inner(LINE, (0, 1, 2, 3), value), InvalidOperation),
            (lambda value: row_active(LINE, (0, 1, 2, 3), value), InvalidRow),
                 (lambda value: is_drawn_by(value, value), InvalidSystem),
            (lambda value: is_drawn_by(LINE, value), InvalidTable), (lambda value: system_of_ring(value, value), InvalidNumber),
            (lambda value: system_of_ring(4, value), InvalidOperation),
                 (lambda value: does_balance(4, ring_of(LINE), value), InvalidOperation),
            (lambda value: signed_paper(value, value), InvalidNumber), (lambda value: signed_paper(3, value), InvalidTable),
            (lambda value: Program(value, value, value), InvalidSystem),
                 (lambda value: Program(LINE, value, value), InvalidNumber),
            (lambda value: hull(value, value), InvalidSystem), (lambda value: led(LINE, value, value), InvalidOrder),
            (lambda value: Table(value, value), InvalidNumber),
                 (lambda value: weights_or_bar(value, only=value), InvalidSystem))
        for call, kind in cases:
            for value in (True, -1, 10 ** 99, "x", [0], {0: 1}, ("a", 0), (True,), Desk(4), RING, TABLE.upright_table(),
                          10 ** 60):
                if not (kind is InvalidTable and isinstance(value, Table)):
                    self.assertEqual(error_of(lambda: call(value)).__class__, kind, value)


class ChangesTest(unittest.TestCase):
    """Changes of names and signs lead all that the stages tell."""

    def test_rows(self):
        for system, order, things in CHANGED:
            other = led(system, order, things)
            for mine, theirs in ((system.rounds, other.rounds), (system.cuts, other.cuts), (system.views(), other.views()),
                                 (system.regions(), other.regions())):
                self.assertEqual(sorted(led_row(row, order, things) for row in mine), list(theirs))
            self.assertEqual(other, system.renamed(order).turned_at(things))
            self.assertEqual(~other, led(~system, order, things))
            if system.many <= 5:
                self.assertEqual(own_count(other), own_count(system))
        for system, order, things in CHANGED[::40]:
            self.assertEqual(least_form(led(system, order, things)), least_form(system))
            self.assertIs(is_form_paper(system, led(system, order, things), ("led", order, things)), True)

    def test_paintings(self):
        for system, order, things in CHANGED[::5]:
            other = led(system, order, things)
            for painting in list(paintings(system.many))[::max(1, 4 ** system.many // 40)]:
                red = order.index(painting.index("r"))
                letters = [painting[thing] for thing in order]
                swapped = "".join({"s": "a", "a": "s"}.get(letter, letter) if (at in things) != (red in things) else letter
                                  for at, letter in enumerate(letters))
                self.assertEqual(painted(other, swapped)[0], painted(system, painting)[0])

    def test_regions(self):
        for system, order, things in CHANGED:
            other = led(system, order, things)
            self.assertEqual((region_count(other), bounded_count(other)), (region_count(system), bounded_count(system)))
            self.assertEqual(two_numbers(other), two_numbers(system))
            self.assertEqual(flat_sums(other), dict(sorted((things_led(order, lot), one) for lot,
                                                           one in flat_sums(system).items())))
            for region in system.regions().rows[::5]:
                self.assertEqual(walls(other, led_row(region, order, things)), things_led(order, walls(system, region)))
            for thing in range(system.many):
                if thing_led(order, thing) not in things:
                    self.assertEqual(list(bounded_regions(other, thing_led(order, thing))),
                                     sorted(led_row(region, order, things) for region in bounded_regions(system, thing)))

    def test_hulls(self):
        for system, order, _ in CHANGED + [(PLANE, (3, 1, 4, 0, 2), ())]:
            if system.is_simple and system.is_open:
                other = system.renamed(order)
                for lot in all_things(system.many):
                    self.assertEqual(hull(other, things_led(order, lot)), things_led(order, hull(system, lot)))
                    self.assertEqual(corners(other, things_led(order, lot)), things_led(order, corners(system, lot)))
                self.assertEqual(sorted(faces(other)), sorted(things_led(order, face) for face in faces(system)))

    def test_programs(self):
        for system, order, _ in CHANGED[::3]:
            for far, goal in product(range(system.many), repeat=2):
                if far != goal:
                    other = Program(system.renamed(order), order.index(far), order.index(goal))
                    self.assertEqual(other.answer()[0], Program(system, far, goal).answer()[0])

    def test_one_more_thing(self):
        for system, order, things in CHANGED[::3]:
            other = led(system, order, things)
            self.assertEqual(list(lines_of(other)), sorted(things_led(order, line) for line in lines_of(system)))
            told = by_steps(system, tuple((thing, "+-"[thing % 2]) for thing in range(system.many))[:2])
            signs = {led_row(cut, order, things): sign for cut, sign in told.items()}
            self.assertEqual(put_in(other, signs), led(put_in(system, told), order + (system.many,), things))

    def test_webs(self):
        for places, ways in ((3, ((0, 1), (1, 2), (2, 0), (0, 0))), (4, ((0, 1), (1, 2), (2, 0), (2, 3), (0, 1))),
                             (2, ((0, 1), (1, 0), (0, 1)))):
            web = Web(places, ways)
            for order in list(permutations(range(len(ways))))[::3]:
                for things in all_things(len(ways))[::3]:
                    other = Web(places, tuple(ways[at] for at in order)).turned_ways(things)
                    self.assertEqual(other.system, led(web.system, order, things))
                    self.assertEqual((other.ringless_count(), other.around_count()), (web.ringless_count(), web.around_count()))

    def test_activities(self):
        for system, names, things in CHANGED[::4]:
            other = led(system, names, things)
            order = tuple(range(system.many))
            led_order = tuple(names.index(thing) for thing in order)
            self.assertEqual(active_counts(other, led_order), active_counts(system, order))
            if order and led_order[0] not in things:
                expected = {led_row(region, names, things): things_led(names, base) for region,
                            base in best_bases(system, order).items()}
                self.assertEqual(best_bases(other, led_order), expected)

    def test_drawings(self):
        for system, order, things in CHANGED[::3] + [(EIGHT, (3, 1, 0, 2, 7, 6, 5, 4), (0, 5))]:
            other = led(system, order, things)
            expected = []
            for word, pair, great in comparisons(system):
                pairs = [tuple(sorted(things_led(order, base) for base in one)) for one in (pair, great)]
                expected.append((word, *(sorted(pairs) if word == "equal" else pairs)))
            self.assertEqual(list(comparisons(other)), sorted(expected))
            if system.rank <= 2 or system.many - system.rank <= 2:
                table = points_of(system)
                rows = tuple(tuple(-row[thing] if at in things else row[thing] for at,
                                   thing in enumerate(order)) for row in table.rows)
                self.assertTrue(is_drawn_by(other, Table(system.many, rows)))

    def test_general_place(self):
        for system, order, things in CHANGED:
            if system.is_general and 2 <= system.rank <= system.many - 2:
                other = led(system, order, things)
                self.assertEqual(list(simplexes(other)), sorted(led_row(region, order, things) for region in simplexes(system)))
                for base in system.bases:
                    if can_turn(system, base):
                        self.assertEqual(turned_base(other, things_led(order, base)),
                                         led(turned_base(system, base), order, things))

    def test_desks_and_strings(self):
        for system, order, things in CHANGED[::7]:
            other = led(system, order, things)
            self.assertEqual(read_value(write_value(other)), other)
            desk = Desk(system.many)
            desk.keep("a", system.renamed(order))
            for at, row in enumerate(system.rounds.rows[:3]):
                desk.keep("rst"[at], led_row(row, order, ()))
                desk.promise("rst"[at], ("round", "a", "rst"[at]))
            desk.turn(things)
            self.assertEqual(desk.item("a"), other)
            for at, row in enumerate(system.rounds.rows[:3]):
                self.assertEqual(desk.item("rst"[at]), led_row(row, order, things))


class OppositesTest(unittest.TestCase):
    def test_paintings(self):
        for system in TINY + FOUR[::7]:
            for painting in list(paintings(system.many))[::7]:
                word, row = painted(system, painting)
                swapped = painting.translate(str.maketrans("oc", "co"))
                self.assertEqual(painted(~system, swapped), ("cut" if word == "round" else "round", row))

    def test_numbers(self):
        for system in TINY + FOUR + FIVE[::5]:
            self.assertEqual(two_numbers(~system), {(j, i): count for (i, j),
                                                    count in sorted(two_numbers(system).items(), key=lambda one: one[0][::-1])})
            self.assertEqual(parts_of(~system), parts_of(system))
            for base in system.bases[::3]:
                order = tuple(range(system.many))
                others = tuple(thing for thing in order if thing not in base)
                self.assertEqual((inner(~system, order, others), outer(~system, order, others)),
                                 (outer(system, order, base), inner(system, order, base)))

    def test_programs(self):
        for system in TINY[::2] + FOUR[::11]:
            for far, goal in product(range(system.many), repeat=2):
                if far != goal:
                    program = Program(system, far, goal)
                    self.assertEqual(program.opposite(), Program(~system, goal, far))
                    self.assertIs(program.answer()[0] == "best", program.opposite().answer()[0] == "best")

    def test_webs_and_two_elements(self):
        for places, ways in ((3, ((0, 1), (1, 2), (2, 0), (0, 0))), (4, ((0, 1), (1, 2), (2, 0), (2, 3), (0, 1))),
                             (2, ((0, 1), (1, 0), (0, 1)))):
            web = Web(places, ways)
            rows = tuple(tuple(((first == place) + (last == place)) % 2 for first, last in ways) for place in range(places))
            self.assertEqual(rounds_over_two(len(ways), rows),
                             tuple(sorted({tuple(sorted(has(row))) for row in web.system.rounds})))
            self.assertEqual(cuts_over_two(len(ways), rows),
                             tuple(sorted({tuple(sorted(has(row))) for row in web.system.cuts})))
            system = System.of_table(Table(len(ways), signed_paper(len(ways), rows)[1]))
            self.assertIn(web.system, [system.turned_at(things) for things in all_things(len(ways))])
            if not web.system.loops:
                self.assertEqual(web.ringless_count(), region_count(web.system))
            if not web.system.pillars:
                self.assertEqual(web.around_count(), region_count(~web.system))

    def test_two_elements(self):
        """The rows of 0 and 1 that are even with all rows tell the opposite, with as many signings."""
        for many, rows in ((3, ((1, 1, 0), (1, 0, 1))), (7, SEVEN), (5, ((1, 1, 0, 1, 0), (0, 1, 1, 1, 1))), (4, ()),
                           (4, ((1, 0, 0, 0),))):
            even = tuple(row for row in product((0, 1),
                                                repeat=many) if all(sum(a * b for a,
                                                                        b in zip(row, one)) % 2 == 0 for one in rows))
            other = reduced(many, ())
            for row in even:
                other = reduced(many, other + (row,))
            self.assertEqual(rounds_over_two(many, other), cuts_over_two(many, rows))
            self.assertEqual(cuts_over_two(many, other), rounds_over_two(many, rows))
            self.assertIs(signing_count(many, other) == 0, signing_count(many, rows) == 0)

    def test_drawings(self):
        for system in TINY + FOUR[::3] + FIVE[::5]:
            if system.rank <= 2 or system.many - system.rank <= 2:
                self.assertTrue(is_drawn_by(~system, points_of(system).upright_table()))
                self.assertTrue(is_drawn_by(system, points_of(~system).upright_table()))

    def test_alternating(self):
        for many in range(10):
            for rank in range(many + 1):
                other = alternating(many, many - rank).turned_at(tuple(range(0, many, 2)))
                self.assertEqual(~alternating(many, rank), other)

    def test_rings(self):
        for system in [one for one in FOUR if one.many - one.rank == 2][::3]:
            zeros = sorted({tuple(at for at, sign in enumerate(row) if sign == "0") for row in system.views() if "-" not in row})
            self.assertEqual(list(ring_faces(4, ring_of(~system))), zeros)


class LessTest(unittest.TestCase):
    """Things left out or shrunk."""

    def test_systems(self):
        for system in TINY + FOUR[::3] + FIVE[::6]:
            for things in all_things(system.many)[::3]:
                self.assertEqual(~system.left_out(things), (~system).shrunk(things))
                self.assertEqual(read_value(write_value(system.shrunk(things))), system.shrunk(things))

    def test_regions(self):
        for system in TINY + FOUR[::2] + FIVE[::4]:
            alike = {thing for lot in system.alike if len(lot) > 1 for thing in lot}
            for thing in range(system.many):
                less, press = system.left_out((thing,)), system.shrunk((thing,))
                if thing not in system.loops and thing not in alike:
                    self.assertEqual(region_count(system),
                                     region_count(less) + region_count(press) if thing not in system.pillars
                                     else 2 * region_count(less))
                if thing not in system.loops and thing not in system.pillars:
                    counts = dict(two_numbers(less))
                    for pair, count in two_numbers(press).items():
                        counts[pair] = counts.get(pair, 0) + count
                    self.assertEqual(two_numbers(system), counts)

    def test_hulls(self):
        """A hull is the same where things outside of it are left out."""
        for thing in range(5):
            for system in (PLANE, System.of_table(curve(5, 3)), System.of_table(curve(5, 2))):
                rest = tuple(one for one in range(5) if one != thing)
                less = system.left_out((thing,))
                for lot in all_things(4):
                    whole = hull(system, tuple(rest[at] for at in lot))
                    self.assertEqual(tuple(rest[at] for at in hull(less, lot)), tuple(one for one in whole if one != thing))

    def test_webs(self):
        for places, ways in ((3, ((0, 1), (1, 2), (2, 0), (0, 0))), (4, ((0, 1), (1, 2), (2, 0), (2, 3), (0, 1))),
                             (2, ((0, 1), (1, 0), (0, 1)))):
            web = Web(places, ways)
            for way, (first, last) in enumerate(ways):
                rest = ways[:way] + ways[way + 1:]
                self.assertEqual(Web(places, rest).system, web.system.left_out((way,)))
                joined = tuple(tuple(first if place == last else place for place in one) for one in rest)
                self.assertEqual(Web(places, joined).system, web.system.shrunk((way,)))

    def test_put_in_and_left_out(self):
        for system in FOUR[::9] + FIVE[::19] + SIX[::6]:
            last = system.many - 1
            if last not in system.pillars:
                signs = signs_of_thing(system, last)
                self.assertEqual(put_in(system.left_out((last,)), signs), system)

    def test_comparisons(self):
        for system in FIVE[::3] + SIX[::4]:
            for thing in range(system.many):
                def down(base):
                    return tuple(one - (one > thing) for one in base if one != thing)

                def led_down(told):
                    return [(word, *[tuple(down(base) for base in pair) for pair in pairs]) for word, *pairs in told]
                without = [one for one in comparisons(system) if not any(thing in base for pair in one[1:] for base in pair)]
                if thing not in system.pillars:
                    self.assertEqual(list(comparisons(system.left_out((thing,)))), led_down(without))
                around = [one for one in comparisons(system) if all(thing in base for pair in one[1:] for base in pair)]
                if thing not in system.loops:
                    self.assertEqual(list(comparisons(system.shrunk((thing,)))), sorted(led_down(around)))

    def test_alternating(self):
        for many, rank in product(range(1, 9), range(9)):
            if rank < many:
                for thing in range(many):
                    self.assertEqual(alternating(many, rank).left_out((thing,)), alternating(many - 1, rank))

    def test_tables(self):
        for table in small_tables(3, 2, -1, 1)[::40]:
            for thing in range(3):
                rows = tuple(tuple(one for at, one in enumerate(row) if at != thing) for row in table.rows)
                self.assertTrue(is_drawn_by(System.of_table(table).left_out((thing,)), Table(2, rows)))


class StayTest(unittest.TestCase):
    def calls(self):
        signs = by_steps(LINE, ((1, "-"),))
        ring = ring_of(LINE)
        order = (0, 1, 2, 3)
        return [
            lambda: (list(LINE.views()), list(LINE.regions()), LINE.flats()), lambda: list(convex_lots(PLANE)),
                lambda: faces(PLANE),
            lambda: painted(LINE, "rsao"), lambda: in_table(TABLE, "rsso"), lambda: form_paper(LINE, LINE.turned_at((1,))),
            lambda: (two_numbers(LINE), flat_sums(LINE), region_web(LINE)), lambda: steps(LINE, "++++", "----"),
                lambda: parting_things(LINE, "++++", "++--"),
            lambda: system_of_web(region_web(LINE)), lambda: put_in(LINE, signs), lambda: line_paper(LINE, signs),
                lambda: turn_paper(LINE, (0, 2)),
            lambda: simplexes(LINE), lambda: (RING.pieces(), RING.way_paper(1), RING.ringless_paper(), RING.around_paper()),
            lambda: (signed_paper(7, SEVEN), reduced(7, SEVEN)), lambda: (best_bases(LINE, order), active_counts(LINE, order)),
            lambda: (best_base(LINE, order, "++--"), region_of(LINE, order, (0, 3)), row_active(LINE, order, "++++")),
            lambda: (comparisons(LINE), weights_or_bar(LINE), points_of(LINE)),
                lambda: (ring, ring_faces(4, ring), even_lots(5, 2)),
            lambda: (write_value(LINE), read_value(write_value(RING))), lambda: Program(LINE, 0, 3).answer(),
            lambda: (system_of_signs(4, 2, "++++++"), system_of_views(LINE.views()), system_of_regions(LINE.regions()))]

    def test_equal_calls(self):
        """[0.2]."""
        before = [(one.rounds.rows, one.cuts.rows, one.signs, one.bases) for one in (LINE, PLANE, DRAWN)]
        for call in self.calls():
            self.assertEqual(call(), call())
        self.assertEqual([(one.rounds.rows, one.cuts.rows, one.signs, one.bases) for one in (LINE, PLANE, DRAWN)], before)
        self.assertEqual((RING.places, RING.ways, TABLE.rows),
                         (4, ((0, 1), (1, 2), (2, 0), (2, 3)), ((1, 0, 3, -1), (0, 1, -1, 1))))

    def test_returned_dicts_are_new(self):
        order = (0, 1, 2, 3)
        for call in (lambda: two_numbers(LINE), lambda: flat_sums(LINE), lambda: best_bases(LINE, order),
                     lambda: active_counts(LINE, order),
                     lambda: by_steps(LINE, ()), lambda: signs_of_thing(LINE, 3), lambda: weights_or_bar(LINE)[1]):
            first = call()
            told = dict(first)
            self.assertEqual(list(first), sorted(first))
            first.clear()
            self.assertEqual(call(), told)

    def test_passed_dicts_stay(self):
        signs = by_steps(LINE, ((1, "-"),))
        weights = weights_or_bar(LINE)[1]
        told = (dict(signs), dict(weights))
        put_in(LINE, signs)
        line_paper(LINE, signs)
        is_weights(LINE, weights)
        is_bar(LINE, weights)
        self.assertEqual((signs, weights), told)
        desk = Desk(4)
        error_of(lambda: desk.promise("p", [("open", "a")]))
        made = put_in(LINE, signs)
        signs.clear()
        self.assertEqual(made.left_out((4,)), LINE)

    def test_only_desks_change(self):
        """A system that stands in a desk is not changed by its deeds, nor is one that comes from it."""
        desk = Desk(4)
        desk.keep("a", LINE)
        taken = desk.item("a")
        desk.turn((0,))
        self.assertEqual((taken, desk.item("a")), (LINE, LINE.turned_at((0,))))

    def test_comparing_with_each_value(self):
        objects = [Lot(3, ("+-0",)), TABLE, LINE, Program(LINE, 0, 3), RING, Desk(4)]
        for at, one in enumerate(objects):
            for value in POOL + tuple(objects[:at] + objects[at + 1:]):
                same = one == value
                self.assertIs(same.__class__, bool)
                self.assertIs(one != value, not same)
            self.assertIs(one == one, True)
        for one in (Lot(3, ("+-0",)), Desk(4)):
            for value in POOL:
                self.assertIs((value in one).__class__, bool)

    def test_iterated_over_where_told(self):
        for one in (LINE, Program(LINE, 0, 3), RING, Desk(4)):
            self.assertEqual(error_of(lambda: iter(one)).__class__, TypeError)
        for one in (Lot(3, ("+-0",)), TABLE):
            self.assertEqual(len(list(one)), len(one))

    def test_laid_over_everywhere(self):
        """[0.15]: views are cuts laid over one another, also where systems come of webs, rings and strings."""
        for system in (RING.system, system_of_ring(4, ring_of(LINE)), read_value("system 4 2 ++++++"), alternating(5, 3)):
            views = system.views()
            for one in views.rows[::3]:
                for other in system.cuts:
                    self.assertIn(laid_over(one, other), views)


if __name__ == "__main__":
    unittest.main()
