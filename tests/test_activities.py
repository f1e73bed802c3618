"""Orders and activities: [0.24], [14.1] to [14.9] and the functions of stage 14."""

import unittest
from itertools import permutations, product

from sidesigns.errors import InvalidOperation, InvalidOrder, InvalidRow, InvalidSystem, Refused
from sidesigns.order.activities import (active_counts, best_base, best_bases, inner, is_best, outer, region_of,
                                        row_active)
from sidesigns.region.regions import bounded_count, bounded_regions, two_numbers
from sidesigns.system.systems import System
from support import Wrong, among, check_judged, curve, error_of, has, is_row, is_things, over, told_by
from worlds import (COLUMNED, CURVES, FIVE, FOUR, LINE, MIXED, PLANE, SIX, TINY, all_things, bent, eight, plain_regions,
                    turned)


def orders_of(system, count):
    """Some orders of the things of a system, all of them if there are few."""
    orders = list(permutations(range(system.many)))
    return orders[::max(1, len(orders) // count)]


# Systems with orders: all orders of all systems of at most three things, and of some with more.
CASES = [(system, order) for system in TINY for order in orders_of(system, 6)]
CASES += [(system, order) for system in FOUR[::4] for order in orders_of(system, 24)]
CASES += [(system, (2, 0, 3, 1)) for system in FOUR]
MORE = [(system, order) for system in FIVE[::9] + COLUMNED[::40] + [PLANE, LINE, MIXED] for order in orders_of(system, 3)]
MORE += [(system, order) for system in SIX[::5] + CURVES[::4] for order in orders_of(system, 2)]
GREAT = [(System.of_table(curve(9, 4)), (3, 8, 1, 0, 7, 6, 2, 5, 4)), (bent(), (8, 7, 6, 5, 4, 3, 2, 1, 0)),
         (eight(), (4, 0, 1, 7, 2, 6, 5, 3))]


def lowest(row, order):
    return min(has(row), key=order.index)


def plain_row(system, base, thing):
    """The cut of a base and a thing of it, or the round of it and another thing [0.13]."""
    if thing in base:
        rows = [row for row in system.cuts if row[thing] == "+" and not (has(row) & set(base)) - {thing}]
    else:
        rows = [row for row in system.rounds if row[thing] == "+" and has(row) <= set(base) | {thing}]
    assert len(rows) == 1
    return rows[0]


def plain_active(system, order, base):
    active = [thing for thing in range(system.many) if lowest(plain_row(system, base, thing), order) == thing]
    return tuple(thing for thing in active if thing in base), tuple(thing for thing in active if thing not in base)


def minus_things(row):
    return tuple(thing for thing, sign in enumerate(row) if sign == "-")


def plain_row_active(system, order, row):
    """[14.3]."""
    other = system.turned_at(minus_things(row))
    return tuple(tuple(sorted({lowest(one, order) for one in lot if "-" not in one})) for lot in (other.cuts, other.rounds))


def full_rows(many):
    return ["".join(signs) for signs in product("+-", repeat=many)]


def plain_bounded(system, order):
    """[14.6]."""
    if not order:
        return []
    regions = [row for row in plain_regions(system) if "0" not in row and row[order[0]] == "+"]
    return [row for row in regions if all(cut[order[0]] == "+" for cut in system.cuts if over(cut, row) == row)]


def is_plain_best(system, order, region, base):
    """[14.7]."""
    if order[0] not in base:
        return False
    other = system.turned_at(minus_things(region))
    for thing in range(system.many):
        if thing != order[0]:
            row = plain_row(other, base, thing)
            low = lowest(row, order)
            if low == thing or row[low] != "-":
                return False
    return True


class ActiveTest(unittest.TestCase):
    def test_of_bases(self):
        """[14.2]."""
        for system, order in CASES + MORE + GREAT:
            for base in system.bases[::1 + len(system.bases) // 30]:
                active = plain_active(system, order, base)
                self.assertEqual((inner(system, order, base), outer(system, order, base)), active)

    def test_counts(self):
        """[14.4]."""
        for system, order in CASES + MORE:
            counts = {}
            for base in system.bases:
                pair = tuple(len(things) for things in plain_active(system, order, base))
                counts[pair] = counts.get(pair, 0) + 1
            found = active_counts(system, order)
            self.assertEqual(list(found.items()), sorted(counts.items()))
            self.assertEqual(found, two_numbers(system))
            self.assertEqual(active_counts(~system, order), {(j, i): count for (i, j), count in found.items()})

    def test_all_orders_have_equal_counts(self):
        for system in TINY + FOUR[::5] + FIVE[::20]:
            for order in permutations(range(system.many)):
                self.assertEqual(active_counts(system, order), two_numbers(system))

    def test_opposites(self):
        """What is inner active is outer active for all other things in the opposite system."""
        for system, order in CASES[::3] + MORE[::3]:
            for base in system.bases:
                others = tuple(thing for thing in range(system.many) if thing not in base)
                self.assertEqual(inner(system, order, base), outer(~system, order, others))

    def test_changes(self):
        """Changes of names and signs lead the active things with them."""
        for system, order in CASES[::7] + MORE[::4]:
            names = tuple(reversed(range(1, system.many))) + (0,) * (system.many > 0)
            other = system.renamed(names).turned_at(tuple(range(0, system.many, 2)))
            led = {thing: at for at, thing in enumerate(names)}
            for base in system.bases:
                led_base, led_order = tuple(sorted(led[one] for one in base)), tuple(led[one] for one in order)
                self.assertEqual(inner(other, led_order, led_base),
                                 tuple(sorted(led[one] for one in inner(system, order, base))))
                self.assertEqual(outer(other, led_order, led_base),
                                 tuple(sorted(led[one] for one in outer(system, order, base))))

    def test_of_rows(self):
        """[14.3]."""
        for system, order in CASES[::2] + MORE[::2]:
            for row in full_rows(system.many):
                self.assertEqual(row_active(system, order, row), plain_row_active(system, order, row))
        for system, order in GREAT:
            for row in full_rows(system.many)[::60]:
                self.assertEqual(row_active(system, order, row), plain_row_active(system, order, row))

    def test_numbers_of_rows(self):
        """[14.5]."""
        for system, order in CASES + MORE:
            counts = {}
            for row in full_rows(system.many):
                cuts, rounds = row_active(system, order, row)
                self.assertFalse(set(cuts) & set(rounds))
                if order:
                    self.assertIn(order[0], cuts + rounds)
                self.assertIs(not rounds, row in system.regions())
                counts[len(cuts), len(rounds)] = counts.get((len(cuts), len(rounds)), 0) + 1
            self.assertEqual(counts, {(i, j): count * 2 ** (i + j) for (i, j), count in active_counts(system, order).items()})


class BestTest(unittest.TestCase):
    def check_best(self, system, order):
        bounded = plain_bounded(system, order)
        found = best_bases(system, order)
        self.assertEqual(list(found), bounded)
        self.assertEqual(tuple(bounded), bounded_regions(system, order[0]) if order else ())
        self.assertEqual(len(bounded), bounded_count(system))
        for region in bounded:
            right = [base for base in system.bases if is_plain_best(system, order, region, base)]
            self.assertEqual([found[region]], right)
            self.assertEqual(best_base(system, order, region), right[0])
            self.assertEqual([base for base in system.bases if is_best(system, order, region, base)], right)
            self.assertEqual(region_of(system, order, right[0]), region)

    def test_best_bases(self):
        """[14.6] to [14.8]."""
        for system, order in CASES + MORE:
            self.check_best(system, order)

    def test_regions_of_bases(self):
        """[14.8]: each base with the numbers 1 and 0 is the best one of just one bounded region."""
        for system, order in CASES + MORE + GREAT:
            regions = {base: region for region, base in best_bases(system, order).items()}
            for base in system.bases:
                numbers = (len(inner(system, order, base)), len(outer(system, order, base)))
                if numbers == (1, 0):
                    self.assertEqual(region_of(system, order, base), regions.pop(base))
                else:
                    self.assertEqual(told_by(error_of(lambda: region_of(system, order, base))), (Refused, ("active", *numbers)))
            self.assertEqual(regions, {})

    def test_greater_systems(self):
        for system, order in GREAT:
            found = best_bases(system, order)
            self.assertEqual(tuple(found), bounded_regions(system, order[0]))
            for region, base in list(found.items())[::7]:
                self.assertTrue(is_plain_best(system, order, region, base))
                self.assertEqual(best_base(system, order, region), base)
                self.assertEqual(region_of(system, order, base), region)

    def test_turned(self):
        """[14.9]."""
        for system, order in CASES[::2] + MORE:
            if order:
                found = best_bases(system, order)
                for things in all_things(system.many)[::3]:
                    if order[0] not in things:
                        other = best_bases(system.turned_at(things), order)
                        self.assertEqual(other, {turned(region, things): base for region, base in found.items()})

    def test_none(self):
        """A system with loops, or without things, has no bounded regions."""
        self.assertEqual(best_bases(System.free(0), ()), {})
        self.assertEqual(told_by(error_of(lambda: region_of(System.free(0), (), ()))), (Refused, ("active", 0, 0)))
        self.assertEqual(error_of(lambda: best_base(System.free(0), (), "")).__class__, InvalidOperation)
        for system in [one for one in TINY + FOUR if one.loops]:
            self.assertEqual(best_bases(system, tuple(range(system.many))), {})
        self.assertEqual(best_bases(System.free(1), (0,)), {"+": (0,)})
        self.assertEqual(best_bases(System.free(2), (1, 0)), {})
        self.assertEqual(active_counts(System.free(0), ()), {(0, 0): 1})
        self.assertEqual(row_active(System.free(0), (), ""), ((), ()))
        self.assertEqual((inner(System.free(2), (1, 0), (0, 1)), outer(~System.free(2), (1, 0), ())), ((0, 1), (0, 1)))

    def test_no_other_value(self):
        for system, order in ((LINE, (0, 1, 2, 3)), (LINE, (2, 0, 3, 1)), (PLANE, (4, 1, 0, 2, 3))):
            for region, base in best_bases(system, order).items():
                check_judged(self, lambda value: is_best(system, order, region, value), [base], among([base]))


class ErrorsTest(unittest.TestCase):
    def test_wrong_arguments(self):
        order = (0, 1, 2, 3)
        is_system = (InvalidSystem, lambda value: isinstance(value, System))
        is_order = (InvalidOrder, lambda value: isinstance(value, tuple) and is_things(tuple(sorted(value)) if all(
            isinstance(one, int) for one in value) else None, 4) and len(value) == 4)
        is_base = (InvalidOperation, lambda value: is_things(value, 4) and value in LINE.bases)
        for call in (inner, outer, region_of):
            Wrong(call, (LINE, order, (0, 3)), (is_system, is_order, is_base)).check(self)
        for call in (active_counts, best_bases):
            Wrong(call, (LINE, order), (is_system, is_order)).check(self)
        is_full = (InvalidRow, lambda value: is_row(value, 4) and "0" not in value)
        Wrong(row_active, (LINE, order, "+-+-"), (is_system, is_order, is_full)).check(self)
        is_region = (InvalidRow, lambda value: is_row(value, 4))
        for call in (best_base, lambda *told: is_best(*told, (0, 2))):
            Wrong(call, (LINE, order, "++--"), (is_system, is_order, is_region)).check(self)

    def test_orders(self):
        for order in ((), (0, 1, 2), (0, 1, 2, 2), (0, 1, 2, 4), (0, 1, 2, 3, 4), [0, 1, 2, 3], (0, True, 2, 3),
                      (0, 1, 2, -1), "0123",
                      (0, 1, 2, None), {0: 0, 1: 1, 2: 2, 3: 3}, (False, 1, 2, 3), (0, 1, 2, (3,))):
            for call in (lambda: inner(LINE, order, (0, 9)), lambda: outer(LINE, order, (0, 9)),
                         lambda: active_counts(LINE, order),
                         lambda: row_active(LINE, order, "x"), lambda: best_base(LINE, order, "x"),
                         lambda: region_of(LINE, order, ()),
                         lambda: best_bases(LINE, order), lambda: is_best(LINE, order, "x", None)):
                self.assertEqual(error_of(call).__class__, InvalidOrder)

    def test_regions_that_are_not_bounded(self):
        order = (0, 1, 2, 3)
        for region in [row for row in full_rows(4) if row not in ("+++-", "++--")] + ["0+++", "++-0", "0000"]:
            for call in (lambda: best_base(LINE, order, region), lambda: is_best(LINE, order, region, (0, 2))):
                self.assertEqual(error_of(call).__class__, InvalidOperation)
        for region in ("+++", "+++++", "+++x", "", None, ("+++-",), 1):
            for call in (lambda: best_base(LINE, order, region), lambda: is_best(LINE, order, region, (0, 2))):
                self.assertEqual(error_of(call).__class__, InvalidRow)

    def test_rows_without_some_thing(self):
        for row in ("+++0", "0000", "0+-+"):
            self.assertEqual(error_of(lambda: row_active(LINE, (0, 1, 2, 3), row)).__class__, InvalidRow)

    def test_nothing_changes(self):
        for system, order in MORE[::5]:
            told = (system.rounds.rows, system.cuts.rows, system.signs)
            self.assertEqual(best_bases(system, order), best_bases(system, order))
            self.assertEqual((system.rounds.rows, system.cuts.rows, system.signs), told)
        found = best_bases(LINE, (0, 1, 2, 3))
        found.clear()
        self.assertEqual(len(best_bases(LINE, (0, 1, 2, 3))), 2)


if __name__ == "__main__":
    unittest.main()
