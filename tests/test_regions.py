"""Regions: [0.19], [8.1] to [8.8] and the functions of stage 8."""

import unittest
from itertools import permutations, product

from sidesigns.errors import InvalidNumber, InvalidOperation, InvalidRow, InvalidSystem, Refused, TooMany
from sidesigns.region.regions import (bounded_count, bounded_regions, flat_sums, is_steps, parting_things, region_count,
                                      region_web, steps, system_of_web, two_numbers, walls)
from sidesigns.rows.rows import Lot
from sidesigns.system.forms import led
from sidesigns.system.systems import System
from support import POOL, Wrong, apart_at, curve, error_of, is_between, is_plain, opposite, told_by
from worlds import (COLUMNED, CURVES, DRAWN, FIVE, FOUR, LINE, MIXED, PLANE, SIX, TINY, all_changes, bent, eight, is_laid_on,
                    plain_regions, turned)

SOME = TINY + FOUR[::2] + FIVE[::12] + SIX[::5] + COLUMNED[::60] + [LINE, PLANE, MIXED]
LARGE = [bent(), eight(), System.of_table(curve(9, 4))]
SIMPLE = [system for system in TINY + FOUR + FIVE + SIX if system.is_simple]


def plain_numbers(system, order):
    """The two numbers of all bases [8.1], for any order of the things."""
    counts = {}
    for base in system.bases:
        inner = [thing for thing in base if lowest(system.cut_of(base, thing), order) == thing]
        outside = [thing for thing in range(system.many) if thing not in base]
        outer = [thing for thing in outside if lowest(system.round_of(base, thing), order) == thing]
        pair = (len(inner), len(outer))
        counts[pair] = counts.get(pair, 0) + 1
    return counts


def lowest(row, order):
    return next(thing for thing in order if row[thing] != "0")


def plain_sums(system):
    sums = {}
    for flat in system.flats():
        below = [sums[other] for other in sums if set(other) <= set(flat)]
        sums[flat] = -sum(below) if below else 1
    return sums


def plain_bounded(system, thing):
    regions = [row for row in plain_regions(system) if "0" not in row and row[thing] == "+"]
    return tuple(row for row in regions if all(cut[thing] == "+" for cut in system.cuts if is_laid_on(cut, row)))


def plain_neighbours(system, one):
    """The classes of alike things at which a region, turned, is a region."""
    regions = plain_regions(system)
    return [lot for lot in system.alike if turned(one, lot) in regions]


def plain_ways(web, start):
    """The ways from an index to all others [8.7]."""
    ways, waiting = {start: 0}, [start]
    for index in waiting:
        for other in web[index]:
            if other not in ways:
                ways[other] = ways[index] + 1
                waiting.append(other)
    return ways


def plain_sides(web):
    """The unlike pairs of sides of the ties of a web in which all hangs together [8.7]."""
    ways = [plain_ways(web, index) for index in range(len(web))]
    return {frozenset({frozenset(v for v in range(len(web)) if ways[v][i] < ways[v][j]),
                       frozenset(v for v in range(len(web)) if ways[v][j] < ways[v][i])})
            for i in range(len(web)) for j in web[i]}


class NumbersTest(unittest.TestCase):
    def test_two_numbers(self):
        """[8.1]."""
        for system in SOME + FOUR[1::2] + LARGE + COLUMNED[::9]:
            numbers = two_numbers(system)
            self.assertEqual(numbers, plain_numbers(system, range(system.many)))
            self.assertEqual(list(numbers), sorted(numbers))
            self.assertEqual(sum(numbers.values()), len(system.bases))

    def test_hang_on_the_bases_alone(self):
        """[8.2], over all names and the opposite."""
        for system in TINY + FOUR[::15]:
            for order in permutations(range(system.many)):
                self.assertEqual(two_numbers(system), plain_numbers(system, order))
        for system in SOME + LARGE:
            turned_pairs = {(j, i): count for (i, j), count in two_numbers(system).items()}
            self.assertEqual(two_numbers(~system), turned_pairs)
        for one, other in product(FOUR[::7], repeat=2):
            if one.bases == other.bases:
                self.assertEqual(two_numbers(one), two_numbers(other))

    def test_without_a_thing(self):
        """[8.2]."""
        for system in SOME:
            for thing in range(system.many):
                left, shrunk = two_numbers(system.left_out((thing,))), two_numbers(system.shrunk((thing,)))
                if thing in system.pillars:
                    expected = {(i + 1, j): count for (i, j), count in left.items()}
                elif thing in system.loops:
                    expected = {(i, j + 1): count for (i, j), count in left.items()}
                else:
                    expected = {pair: left.get(pair, 0) + shrunk.get(pair, 0) for pair in {*left, *shrunk}}
                self.assertEqual(two_numbers(system), expected)

    def test_flat_sums(self):
        for system in SOME + LARGE + CURVES[::3]:
            sums = flat_sums(system)
            self.assertEqual(sums, plain_sums(system))
            self.assertEqual(list(sums), sorted(sums))
            for flat, number in sums.items():
                self.assertGreater(number * (-1) ** system.rank_of(flat), 0)

    def test_edges(self):
        for many in range(10):
            system = System.free(many)
            self.assertEqual(two_numbers(system), {(many, 0): 1})
            self.assertEqual(two_numbers(~system), {(0, many): 1})
            self.assertEqual((region_count(system), region_count(~system)), (2 ** many, 1))
            self.assertEqual(len(flat_sums(system)), 2 ** many)
            self.assertEqual(flat_sums(~system), {tuple(range(many)): 1})
            self.assertEqual(bounded_count(system), 1 if many == 1 else 0)

    def test_region_count(self):
        """[8.3]."""
        for system in SOME + FOUR[1::2] + LARGE + CURVES + COLUMNED[::5]:
            count = region_count(system)
            self.assertEqual(count, len(system.regions()))
            self.assertEqual(count, sum(abs(number) for number in flat_sums(system).values()))
            self.assertEqual(count, region_count(system.left_out(system.loops)))
            if not system.loops:
                pairs = two_numbers(system).items()
                self.assertEqual(count, sum(2 ** i * number for (i, j), number in pairs if j == 0))
            for lot in system.alike:
                left = region_count(system.left_out(lot[:1]))
                if len(lot) > 1:
                    self.assertEqual(count, left)
                else:
                    self.assertEqual(count, left + region_count(system.shrunk(lot)))

    def test_bounded(self):
        """[8.4]."""
        for system in SOME + LARGE:
            count = bounded_count(system)
            self.assertEqual(count, two_numbers(system).get((1, 0), 0))
            for thing in range(system.many):
                found = bounded_regions(system, thing)
                self.assertEqual(found, plain_bounded(system, thing) if system.many < 7 else found)
                self.assertEqual(found, tuple(sorted(found)))
                if thing not in system.loops:
                    self.assertEqual(len(found), count)
                other = system.turned_at((thing,))
                self.assertEqual(len(bounded_regions(other, thing)), len(found))
            if system.loops:
                self.assertEqual(count, 0)
            elif system.rank == 1:
                self.assertEqual(count, 1)

    def test_none_bounded_beside(self):
        for one, other in product([system for system in TINY if system.many][::3], repeat=2):
            both = one + other
            self.assertEqual(bounded_count(both), 0)
            self.assertEqual([bounded_regions(both, thing) for thing in range(both.many)], [()] * both.many)


class NeighboursTest(unittest.TestCase):
    def test_walls(self):
        """[8.5]."""
        for system in SOME:
            for region in system.regions():
                found = walls(system, region)
                classes = plain_neighbours(system, region)
                self.assertEqual(found, tuple(sorted(thing for lot in classes for thing in lot)))
                self.assertGreaterEqual(len(classes), system.rank)

    def test_parting_things(self):
        for system in SOME[::2]:
            for one, other in list(product(system.regions(), repeat=2))[::5]:
                self.assertEqual(parting_things(system, one, other), tuple(sorted(apart_at(one, other))))

    def test_steps(self):
        """[8.6]."""
        for system in SOME[::2] + LARGE[:1]:
            regions = list(system.regions())
            for one, other in list(product(regions, repeat=2))[::max(1, len(regions) ** 2 // 60)]:
                row = steps(system, one, other)
                self.check_steps(system, one, other, row)
                self.assertIs(is_steps(system, one, other, row), True)

    def check_steps(self, system, one, other, row):
        classes = [lot for lot in system.alike if lot[0] in apart_at(one, other)]
        self.assertEqual((row[0], row[-1], len(row)), (one, other, len(classes) + 1))
        for first, second in zip(row, row[1:]):
            self.assertIn(second, system.regions())
            self.assertIn(tuple(sorted(apart_at(first, second))), system.alike)

    def test_steps_judged(self):
        """All shortest rows of steps are accepted, and nothing else."""
        for system in (LINE, DRAWN, MIXED, System.free(2), System.free(3), System.of_table(curve(5, 3))):
            regions = list(system.regions())
            near = {row: [turned(row, lot) for lot in plain_neighbours(system, row)] for row in regions}
            for one, other in list(product(regions, repeat=2))[::3]:
                size = len(steps(system, one, other))
                rows = [(one,)]
                for _ in range(size - 1):
                    rows = [row + (after,) for row in rows for after in near[row[-1]]]
                right = [row for row in rows if row[-1] == other]
                self.assertGreater(len(right), 0)
                for row in rows:
                    self.assertIs(is_steps(system, one, other, row), row in right)
                    self.assertIs(is_steps(system, one, other, row + (other,)), False)
                    self.assertIs(is_steps(system, one, other, row[:-1]), False)
                    self.assertIs(is_steps(system, one, other, list(row)), False)

    def test_longer_rows_are_none(self):
        row = ("++++", "+++-", "++--", "+++-", "++--")
        self.assertIs(is_steps(LINE, "++++", "++--", row), False)
        self.assertIs(is_steps(LINE, "++++", "++--", row[:3]), True)
        self.assertIs(is_steps(LINE, "++++", "++++", ("++++",)), True)
        self.assertIs(is_steps(LINE, "++++", "++++", ("++++", "+++-", "++++")), False)

    def test_no_other_value(self):
        for row in ("+++-0", "+++-x", "+++- ", ("+", "+", "+", "-")):
            self.assertIs(is_steps(LINE, "++++", "++--", ("++++", row, "++--")), False)
        for value in POOL:
            self.assertIs(is_steps(LINE, "++++", "++--", value), False)
            self.assertIs(is_steps(LINE, "++++", "++--", ("++++", value, "++--")), False)
            self.assertIs(is_steps(LINE, "++++", "++--", (value, "+++-", "++--")), value == "++++")
            self.assertIs(is_steps(LINE, "++++", "++++", (value,)), value == "++++")

    def test_region_web(self):
        for system in SOME + LARGE[:1]:
            regions = list(system.regions())
            web = region_web(system)
            self.assertEqual(len(web), len(regions))
            for index, row in enumerate(regions):
                near = [regions.index(turned(row, lot)) for lot in system.alike if turned(row, lot) in regions]
                self.assertEqual(web[index], tuple(sorted(near)))


class WebTest(unittest.TestCase):
    def check_made(self, web, system):
        """[8.7], [8.8]: what is made of a web."""
        made, regions = system_of_web(web)
        self.assertTrue(made.is_simple)
        self.assertEqual(sorted(regions), list(made.regions()))
        self.assertNotIn("-", regions[0])
        ties = [(i, j) for i in range(len(web)) for j in web[i] if i < j]
        firsts = {}
        for i, j in ties:
            parted = apart_at(regions[i], regions[j])
            self.assertEqual(len(parted), 1)
            firsts.setdefault(parted.pop(), (i, j))
        self.assertEqual(list(firsts), list(range(made.many)))
        for i, j in product(range(len(web)), repeat=2):
            self.assertIs(j in web[i], len(apart_at(regions[i], regions[j])) == 1)
        if system is not None:
            self.assertEqual((made.many, made.rank), (system.many, system.rank))
        return made

    def test_webs_of_simple_systems(self):
        for system in SIMPLE:
            made = self.check_made(region_web(system), system)
            if made.many < 4:
                self.assertIn(made, [led(system, *change) for change in all_changes(system.many)])

    def test_webs_with_other_indices(self):
        for system in (DRAWN, LINE, PLANE, System.free(3)):
            web = region_web(system)
            many = len(web)
            for step in (1, 3, 5):
                names = [(index * step + 2) % many for index in range(many)]
                if len(set(names)) == many:
                    other = [None] * many
                    for index, near in enumerate(web):
                        other[names[index]] = tuple(sorted(names[one] for one in near))
                    self.check_made(tuple(other), system)

    def test_large(self):
        for system in LARGE + [System.free(9), PLANE + LINE]:
            self.check_made(region_web(system), system)

    def test_webs_with_alike_things_tell_them_once(self):
        made, regions = system_of_web(region_web(MIXED.left_out((0,))))
        self.assertEqual((made.many, made.rank, len(regions)), (2, 2, 4))

    def test_edges(self):
        made, regions = system_of_web(((),))
        self.assertEqual((made, regions), (System.free(0), ("",)))
        made, regions = system_of_web(((1,), (0,)))
        self.assertEqual((made, regions), (System.free(1), ("+", "-")))

    def ring(self, many):
        return tuple(tuple(sorted(((at - 1) % many, (at + 1) % many))) for at in range(many))

    def test_rings(self):
        for many in range(4, 20, 2):
            made = self.check_made(self.ring(many), None)
            self.assertEqual((made.many, made.rank), (many // 2, 2))
        self.assertEqual(told_by(error_of(lambda: system_of_web(self.ring(20)))), (TooMany, 9))

    def test_refused(self):
        path = tuple(tuple(other for other in (at - 1, at + 1) if 0 <= other < 10) for at in range(10))
        long = tuple(tuple(other for other in (at - 1, at + 1) if 0 <= other < 11) for at in range(11))
        half = ((1,), (0,), (3,), (2,))
        for web, expected in ((self.ring(3), (Refused, ("web",))), (self.ring(5), (Refused, ("web",))),
                              (half, (Refused, ("apart",))), (((), ()), (Refused, ("apart",))),
                              (path, (Refused, ("web",))), (long, (TooMany, 9)), (path[:2] + ((1,),), (Refused, ("web",))),
                              (((1, 2, 3), (0,), (0,), (0,)), (Refused, ("web",))),
                              (((1, 2, 3), (0, 2, 3), (0, 1, 3), (0, 1, 2)), (Refused, ("web",)))):
            self.assertEqual(told_by(error_of(lambda: system_of_web(web))), expected, web)

    def test_apart_comes_ahead_of_too_many(self):
        ring = self.ring(30)
        web = ring + ((31,), (30,))
        self.assertEqual(told_by(error_of(lambda: system_of_web(web))), (Refused, ("apart",)))

    def test_a_region_less(self):
        for system in (LINE, PLANE, System.free(3), DRAWN):
            web = region_web(system)
            last = len(web) - 1
            less = tuple(tuple(one for one in near if one != last) for near in web[:-1])
            expected = (TooMany, 9) if len(plain_sides(less)) > 9 else (Refused, ("web",))
            self.assertEqual(told_by(error_of(lambda: system_of_web(less))), expected)

    def test_a_tie_less_or_more(self):
        web = [list(near) for near in region_web(System.free(3))]
        web[0].remove(web[0][0])
        first = region_web(System.free(3))[0][0]
        web[first].remove(0)
        self.assertEqual(error_of(lambda: system_of_web(tuple(map(tuple, web)))).__class__, Refused)

    def test_wrong_arguments(self):
        def is_web(value):
            return isinstance(value, tuple) and 1 <= len(value) <= 512 and all(
                isinstance(near, tuple) and len(near) <= 9 and all(is_between(one, 0, len(value) - 1) for one in near)
                and list(near) == sorted(set(near)) for near in value) and all(
                one != at and at in value[one] for at, near in enumerate(value) for one in near)

        Wrong(system_of_web, (((1,), (0,)),), ((InvalidOperation, is_web),)).check(self)
        star = (tuple(range(1, 11)),) + ((0,),) * 10
        for web in ((), ((0,),), ((1,), ()), ((1,), (0, 2), ()), ((2,), (0,)), ((1, 1), (0, 0)), [(1,), (0,)], ([1], [0]),
                    ((True,), (0,)), ((1,), (False,)), star, ((),) * 513, ((2, 1), (0,), (0,)), ((-1,), (0,)), None):
            self.assertEqual(error_of(lambda: system_of_web(web)).__class__, InvalidOperation)
        self.assertEqual(told_by(error_of(lambda: system_of_web(((),) * 512))), (Refused, ("apart",)))
        self.assertEqual(error_of(lambda: system_of_web(star[:1] + ((0,),) * 9)).__class__, InvalidOperation)
        nine = (tuple(range(1, 10)),) + ((0,),) * 9
        self.assertEqual(told_by(error_of(lambda: system_of_web(nine))), (Refused, ("web",)))


class WrongArguments(unittest.TestCase):
    def test_systems(self):
        def is_system(value):
            return isinstance(value, System)

        def is_thing(value):
            return is_between(value, 0, 2)

        def is_region(value):
            return isinstance(value, str) and len(value) == 3 and set(value) <= {"+", "-"}

        for call in (two_numbers, flat_sums, region_count, bounded_count, region_web):
            Wrong(call, (System.free(3),), ((InvalidSystem, is_system),)).check(self)
        Wrong(bounded_regions, (System.free(3), 1), ((InvalidSystem, is_system), (InvalidNumber, is_thing))).check(self)
        Wrong(walls, (System.free(3), "+++"), ((InvalidSystem, is_system), (InvalidRow, is_region))).check(self)
        for call in (parting_things, steps, lambda *told: is_steps(*told, None)):
            Wrong(call, (System.free(3), "+++", "---"), ((InvalidSystem, is_system), (InvalidRow, is_region),
                                                         (InvalidRow, is_region))).check(self)
        for row in ("+++", "+++0", "+-+-", "0000", "+++++"):
            self.assertEqual(error_of(lambda: walls(LINE, row)).__class__, InvalidRow)
        self.assertEqual(walls(MIXED, "0+++"), (1, 2, 3))
        self.assertEqual(error_of(lambda: walls(MIXED, "++++")).__class__, InvalidRow)
        self.assertEqual(error_of(lambda: bounded_regions(System.free(0), 0)).value, 0)

    def test_nothing_changes(self):
        for system in SOME[::6]:
            if system.many:
                rows = system.regions().rows
                before = (system.signs, system.rounds.rows, rows)
                results = [(two_numbers(system), flat_sums(system), bounded_regions(system, 0), walls(system, rows[0]),
                            steps(system, rows[0], rows[-1]), region_web(system)) for _ in range(2)]
                self.assertEqual(results[0], results[1])
                self.assertEqual((system.signs, system.rounds.rows, system.regions().rows), before)

    def test_kinds_of_results(self):
        for value in (region_count(LINE), bounded_count(LINE)):
            self.assertTrue(is_plain(value))
        for value in (walls(LINE, "++++"), bounded_regions(LINE, 0), steps(LINE, "++++", opposite("+")  * 4), region_web(LINE),
                      parting_things(LINE, "++++", "----"), system_of_web(region_web(LINE))[1]):
            self.assertIs(value.__class__, tuple)
        self.assertEqual(Lot(4, steps(LINE, "++++", "----")) - LINE.regions(), Lot(4))


if __name__ == "__main__":
    unittest.main()
