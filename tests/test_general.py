"""General place: [12.1] to [12.6] and the functions of stage 12."""

import unittest
from itertools import combinations, product
from math import comb, factorial

from sidesigns.errors import InvalidNumber, InvalidOperation, InvalidSystem, Refused, TooMany
from sidesigns.place.general import (can_turn, is_turn_paper, sign_tables, simplexes, table_count, turn_paper,
                                     turned_base, turning_row)
from sidesigns.system.judging import system_of_signs
from sidesigns.system.systems import System
from support import Wrong, among, check_judged, curve, error_of, is_between, is_things, opposite, told_by
from worlds import (CURVES, FIVE, FOUR, LINE, MIXED, PLANE, TINY, bent, eight, first_sign_paper, lots, right_strings, sign_in,
                    times, turned)


def general(many, rank):
    """All systems in general place of so many things, up to five, from the rules of base signs."""
    strings = ["+" + "".join(signs) for signs in product("+-", repeat=comb(many, rank) - 1)]
    return [system_of_signs(many, rank, text) for text in strings if first_sign_paper(many, rank, text) == ("signs",)]


FOURS = general(4, 2)
FIVES = general(5, 2) + general(5, 3)


def moved(system, count):
    """Systems to which a plain rule turns bases, one after the other."""
    found = [system]
    for at in range(count):
        bases = [base for base in system.bases if can_turn(system, base)]
        system = turned_base(system, bases[at * at * 7 % len(bases)])
        found.append(system)
    return found


SIXES = moved(System.of_table(curve(6, 3)), 30) + moved(System.of_table(curve(6, 2)), 5) + moved(System.of_table(curve(6, 4)),
                                                                                                 5)
GREATER = moved(System.of_table(curve(7, 3)), 6) + moved(System.of_table(curve(8, 4)),
                                                         3) + moved(System.of_table(curve(9, 3)), 2)
MOVING = FOURS + FIVES[::3] + SIXES + GREATER
# Systems that are not in general place, or cannot move.
STILL = [system for system in TINY + FOUR + FIVE[::5] + CURVES + [PLANE, MIXED, bent(), eight()]
         if "0" in system.signs or not 2 <= system.rank <= system.many - 2]


def signs_with(system, base):
    """The base signs where that of one base is turned, all of them turned if the first one is "-"."""
    signs = "".join(opposite(one) if base == lot else one for lot, one in zip(lots(system.many, system.rank), system.signs))
    return opposite(signs) if signs[0] == "-" else signs


def plain_can_turn(system, base):
    return first_sign_paper(system.many, system.rank, signs_with(system, base)) == ("signs",)


def plain_walls(system):
    """For each region the things at which it, turned there alone, is a region again [12.2]."""
    regions = set(system.regions())
    return {region: tuple(thing for thing in range(system.many) if turned(region, (thing,)) in regions)
            for region in sorted(regions)}


def plain_simplexes(system):
    return {region: walls for region, walls in plain_walls(system).items() if len(walls) == system.rank}


def products_papers(system, base):
    """All right papers of the kind "products" about a base [12.3]."""
    signs = dict(zip(lots(system.many, system.rank), system.signs))
    signs[base] = opposite(signs[base])
    for lot in combinations(base, system.rank - 2):
        rest = [thing for thing in base if thing not in lot]
        for pair in combinations([thing for thing in range(system.many) if thing not in base], 2):
            a, b, c, d = four = tuple(sorted([*rest, *pair]))
            p = times(sign_in(signs, lot + (a, b)), sign_in(signs, lot + (c, d)))
            q = opposite(times(sign_in(signs, lot + (a, c)), sign_in(signs, lot + (b, d))))
            r = times(sign_in(signs, lot + (a, d)), sign_in(signs, lot + (b, c)))
            if p == q == r:
                yield ("products", lot, four)


def right_papers(system, base):
    walls = plain_simplexes(system)
    return [("simplex", region) for region in walls if walls[region] == base] + list(products_papers(system, base))


class TurningTest(unittest.TestCase):
    def test_bases_that_can_be_turned(self):
        """[12.1], [12.3]."""
        for system in FOURS + FIVES[::3] + SIXES[::3]:
            for base in system.bases:
                can = plain_can_turn(system, base)
                self.assertIs(can_turn(system, base), can)
                if can:
                    self.check_turned(system, base)
                else:
                    self.assertEqual(told_by(error_of(lambda: turned_base(system, base))), (Refused, ("base",)))

    def check_turned(self, system, base):
        made = turned_base(system, base)
        self.assertEqual((made.many, made.rank, made.signs), (system.many, system.rank, signs_with(system, base)))
        self.assertEqual(System(made.rounds), made)
        self.assertTrue(made.is_general)
        self.assertTrue(can_turn(made, base))
        self.assertEqual(turned_base(made, base), system)

    def test_some_can_and_some_cannot(self):
        for system in MOVING:
            self.assertIn(True, [can_turn(system, base) for base in system.bases])
        self.assertEqual({can_turn(system, base) for system in SIXES for base in system.bases}, {True, False})

    def test_greater_systems(self):
        for system in GREATER:
            for base in system.bases[::5]:
                if can_turn(system, base):
                    self.check_turned(system, base)
                else:
                    self.assertEqual(turn_paper(system, base)[0], "products")

    def test_opposites(self):
        """A base can be turned exactly if all other things can be in the opposite system."""
        for system in FOURS + FIVES[::7] + SIXES[::4]:
            for base in system.bases:
                others = tuple(thing for thing in range(system.many) if thing not in base)
                self.assertIs(can_turn(system, base), can_turn(~system, others))

    def test_changes_of_names_and_signs(self):
        for system in FOURS[::5] + FIVES[::60]:
            order = (2, 0, 3, 1, 4)[:system.many]
            other = system.renamed(order).turned_at((0, 2))
            for base in system.bases:
                led = tuple(sorted(at for at, thing in enumerate(order) if thing in base))
                self.assertIs(can_turn(other, led), can_turn(system, base))


class SimplexTest(unittest.TestCase):
    def test_walls(self):
        """[12.2]."""
        for system in FOURS + FIVES[::3] + SIXES[::5] + GREATER[::4]:
            self.assertGreaterEqual(min(len(walls) for walls in plain_walls(system).values()), system.rank)
            found = plain_simplexes(system)
            self.assertEqual(simplexes(system), tuple(sorted(found)))
            for region, walls in found.items():
                self.assertIn(walls, system.bases)
                self.assertEqual([one for one in found if found[one] == walls], sorted([region, opposite(region)]))

    def test_papers(self):
        """[12.3]: just one of both kinds exists."""
        for system in FOURS + FIVES[::9] + SIXES[::9]:
            walls = plain_simplexes(system)
            for base in system.bases:
                simplex = [region for region in walls if walls[region] == base]
                products = list(products_papers(system, base))
                self.assertIs(bool(simplex), not products)
                self.assertIs(bool(simplex), can_turn(system, base))
                self.assertIn(turn_paper(system, base), [("simplex", one) for one in simplex] + products)

    def test_all_papers_judged(self):
        for system in FOURS[::4] + FIVES[::40] + SIXES[::20]:
            rows = list(system.regions()) + ["+" * (system.many - 1) + "0", "0" * system.many]
            tried = [("simplex", row) for row in rows] + [
                ("products", lot, four) for lot in lots(system.many, system.rank - 2) for four in lots(system.many, 4)]
            for base in system.bases[::2]:
                right = right_papers(system, base)
                self.assertEqual([paper for paper in tried if is_turn_paper(system, base, paper)], right)

    def test_no_other_value(self):
        five = FIVES[200]
        for system, bases in ((LINE, LINE.bases), (five, five.bases[::3])):
            for base in bases:
                right = right_papers(system, base)
                check_judged(self, lambda value: is_turn_paper(system, base, value), right, among(right))

    def test_rank_three(self):
        """[12.4]."""
        counts = {}
        for system in [one for one in FIVES[::2] + SIXES + GREATER if one.rank == 3]:
            walls = plain_simplexes(system) if system.many < 7 else None
            if walls is not None:
                for thing in range(system.many):
                    self.assertGreaterEqual(len([one for one in walls.values() if thing in one]), 6)
            counts.setdefault(system.many, set()).add(len(simplexes(system)))
        self.assertGreater(len(counts[6]), 1)
        self.assertEqual(len(counts[5]), 1)

    def test_rank_two(self):
        """Each region is a simplex in the rank 2."""
        for system in FOURS + general(5, 2)[::20] + moved(System.of_table(curve(8, 2)), 3):
            self.assertEqual(simplexes(system), tuple(system.regions()))


class CountTest(unittest.TestCase):
    def test_sign_tables(self):
        for many in range(5):
            for rank in range(many + 1):
                expected = [text for text in right_strings(many, rank) if "0" not in text]
                self.assertEqual(list(sign_tables(many, rank)), expected)
        for rank in (2, 3):
            self.assertEqual(list(sign_tables(5, rank)), [one.signs for one in FIVES if one.rank == rank])
        for rank in range(6):
            found = list(sign_tables(5, rank))
            self.assertEqual(found, sorted(set(found)))
            self.assertEqual(len(found), table_count(5, rank))

    def test_counts(self):
        """[12.5]."""
        for many in range(7):
            for rank in range(many + 1):
                count = table_count(many, rank)
                self.assertEqual(count, table_count(many, many - rank))
                if rank in (0, many):
                    self.assertEqual(count, 1)
                elif rank in (1, many - 1):
                    self.assertEqual(count, 2 ** (many - 1))
                elif rank in (2, many - 2):
                    self.assertEqual(count, 2 ** (many - 2) * factorial(many - 1))
                else:
                    self.assertEqual((many, rank, count), (6, 3, 11904))


def least_rows_from(system):
    """The least ones of the shortest turning rows from a system to all others, by their base signs."""
    rows = {system.signs: ()}
    level = {system.signs: ()}
    while level:
        reached = {}
        for signs, row in sorted(level.items(), key=lambda one: one[1]):
            one = system_of_signs(system.many, system.rank, signs)
            for base in one.bases:
                if plain_can_turn(one, base):
                    told = signs_with(one, base)
                    reached[told] = min(reached.get(told, row + (base,)), row + (base,))
        level = {signs: row for signs, row in reached.items() if signs not in rows}
        rows.update(level)
    return rows


class RowTest(unittest.TestCase):
    def check_rows(self, one, group, step):
        """All systems of a group can be led to, and the rows are the least ones of the shortest."""
        rows = least_rows_from(one)
        self.assertEqual(sorted(rows), [other.signs for other in group])
        for other in group[::step]:
            self.assertEqual(turning_row(one, other), rows[other.signs])

    def test_four_things(self):
        """[12.6]."""
        for one in FOURS:
            self.check_rows(one, FOURS, 1)

    def test_five_things(self):
        for rank in (2, 3):
            group = [system for system in FIVES if system.rank == rank]
            for one in group[10::110]:
                self.check_rows(one, group, 7)

    def test_row_leads(self):
        for one, other in zip(FIVES[::50], FIVES[5::50]):
            if one.rank == other.rank:
                system = one
                for base in turning_row(one, other):
                    system = turned_base(system, base)
                self.assertEqual(system, other)
            self.assertEqual(turning_row(one, one), ())


class ErrorsTest(unittest.TestCase):
    def test_wrong_arguments(self):
        is_system = (InvalidSystem, lambda value: isinstance(value, System))
        is_base = (InvalidOperation, lambda value: is_things(value, 4) and value in LINE.bases)
        for call in (can_turn, turned_base, turn_paper):
            Wrong(call, (LINE, (0, 1)), (is_system, is_base)).check(self)
        Wrong(lambda system, base: is_turn_paper(system, base, ("x",)), (LINE, (0, 1)), (is_system, is_base)).check(self)
        Wrong(simplexes, (LINE,), (is_system,)).check(self)
        Wrong(turning_row, (LINE, LINE), (is_system, (InvalidSystem, lambda value: value == LINE))).check(self)

    def test_numbers(self):
        for call, most in ((sign_tables, 5), (table_count, 6)):
            kinds = ((InvalidNumber, lambda value: is_between(value, 0, most)),
                     (InvalidNumber, lambda value: is_between(value, 0, 4)))
            Wrong(call, (4, 2), kinds).check(self)
            for many in range(most + 1):
                for rank in (-1, many + 1):
                    self.assertEqual(told_by(error_of(lambda: list_of(call(many, rank)))), (InvalidNumber, rank))
            self.assertEqual(told_by(error_of(lambda: list_of(call(most + 1, 0)))), (InvalidNumber, most + 1))

    def test_generator_raises_with_its_first_element(self):
        made = sign_tables(6, None)
        self.assertEqual(told_by(error_of(lambda: next(made))), (InvalidNumber, 6))

    def test_systems_not_in_place(self):
        place = (Refused, ("place",))
        for system in STILL:
            self.assertEqual(told_by(error_of(lambda: simplexes(system))), place)
            for call in (can_turn, turned_base, turn_paper, lambda one, base: is_turn_paper(one, base, None)):
                self.assertEqual(told_by(error_of(lambda: call(system, system.bases[-1]))), place)
                # A wrong base comes ahead.
                self.assertEqual(error_of(lambda: call(system, (9,))).__class__, InvalidOperation)
                self.assertEqual(error_of(lambda: call(system, list(system.bases[0]))).__class__, InvalidOperation)
            self.assertEqual(told_by(error_of(lambda: turning_row(system, system))), place)

    def test_turning_row(self):
        for one, other in ((LINE, PLANE), (LINE, System.free(4)), (FIVES[0], FIVES[-1]), (LINE, ~System.of_table(curve(5, 3)))):
            self.assertEqual(error_of(lambda: turning_row(one, other)).__class__, InvalidSystem)
        flat = next(system for system in FOUR if system.rank == 2 and "0" in system.signs)
        for one, other in ((LINE, flat), (flat, LINE)):
            self.assertEqual(told_by(error_of(lambda: turning_row(one, other))), (Refused, ("place",)))
        six = System.of_table(curve(6, 3))
        self.assertEqual(told_by(error_of(lambda: turning_row(six, six))), (TooMany, 5))
        degenerate = six.left_out((5,)) + System.free(1)
        self.assertEqual(error_of(lambda: turning_row(six, degenerate)).__class__, InvalidSystem)
        pressed = System.of_table(curve(6, 6)).shrunk((5,)) + ~System.free(1)
        self.assertEqual(told_by(error_of(lambda: turning_row(pressed, pressed))), (Refused, ("place",)))

    def test_edges_of_the_ranks(self):
        for many in range(8):
            for rank in range(many + 1):
                system = System.of_table(curve(many, rank))
                if 2 <= rank <= many - 2:
                    self.assertTrue(simplexes(system))
                else:
                    self.assertEqual(told_by(error_of(lambda: simplexes(system))), (Refused, ("place",)))


def list_of(result):
    return result if isinstance(result, int) else list(result)


if __name__ == "__main__":
    unittest.main()
