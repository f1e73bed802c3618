"""Rings and alternating systems: [16.1] to [16.8] and the functions of stage 16."""

import unittest
from itertools import combinations, permutations, product
from math import comb

from sidesigns.draw.rings import (alternating, does_balance, even_lots, is_gap_even, is_ring, ring_count, ring_faces,
                                  ring_of, system_of_ring)
from sidesigns.errors import InvalidNumber, InvalidOperation, InvalidSystem, Refused
from sidesigns.system.judging import signs_paper
from sidesigns.system.systems import System
from sidesigns.table.tables import Table
from support import Wrong, check_judged, curve, error_of, is_between, is_things, told_by
from worlds import COLUMNED, CURVES, FIVE, FOUR, LINE, MIXED, PLANE, TINY, all_things, lots, plain_views

RANK_TWO = [system for system in TINY + FOUR + FIVE + COLUMNED[::5] + CURVES + [LINE, MIXED] if system.rank == 2]
TURN = (((0, "+"),), ((1, "-"),), ((2, "+"),), ((3, "-"),))


def orders_of_groups(things):
    """All orders of non-empty groups of some things."""
    if not things:
        return [()]
    found = []
    for first in [chosen for size in range(1, len(things) + 1) for chosen in combinations(things, size)]:
        rest = [thing for thing in things if thing not in first]
        found.extend(((first,) + order) for order in orders_of_groups(rest))
    return found


def signed_orders(many):
    """All orders of two or more groups of some of the things, with all signs."""
    found = []
    for things in all_things(many):
        for groups in orders_of_groups(things):
            if len(groups) > 1:
                for signs in product("+-", repeat=len(things)):
                    told = dict(zip(things, signs))
                    found.append(tuple(tuple((thing, told[thing]) for thing in group) for group in groups))
    return found


def has_least_first(ring):
    """Whether the least thing stands in the first group, with "+" [16.1]."""
    return ring[0][0] == (min(thing for group in ring for thing, _ in group), "+")


def is_plain_ring(ring):
    """The last two rules of [16.1] for groups with signs."""
    return has_least_first(ring) and min(pair for group in ring[1:] for pair in group)[1] == "+"


SIGNED = {many: signed_orders(many) for many in range(5)}
RINGS = {many: [ring for ring in rings if is_plain_ring(ring)] for many, rings in SIGNED.items()}


def plain_signs(many, ring):
    """[16.2]."""
    groups = {thing: at for at, group in enumerate(ring) for thing, _ in group}
    signs = {thing: sign for group in ring for thing, sign in group}
    text = ""
    for one, other in lots(many, 2):
        if one not in groups or other not in groups or groups[one] == groups[other]:
            text += "0"
        else:
            is_plus = (signs[one] == signs[other]) == (groups[one] < groups[other])
            text += "+" if is_plus else "-"
    return text


def is_balanced(ring, things):
    """[16.4]."""
    size = len(ring)
    marks = {thing: at + (size if sign == "-" else 0) for at, group in enumerate(ring) for thing, sign in group}
    own = sorted({marks[thing] for thing in things if thing in marks})
    if len({mark % size for mark in own}) < 2:
        return not own or len(own) == 2
    return all((after - mark - 1) % (2 * size) + 1 < size for mark, after in zip(own, own[1:] + own[:1]))


def is_even(many, things):
    """[16.7]."""
    rest = [thing for thing in range(many) if thing not in things]
    return all(len([thing for thing in things if one < thing < other]) % 2 == 0 for one, other in combinations(rest, 2))


class RingTest(unittest.TestCase):
    def test_all_rings(self):
        """[16.1], [16.2], over all rings of at most four things."""
        for many, rings in SIGNED.items():
            for ring in rings:
                right = ring in RINGS[many]
                self.assertIs(is_ring(many, ring), right)
                if right:
                    system = system_of_ring(many, ring)
                    self.assertEqual((system.many, system.rank, system.signs), (many, 2, plain_signs(many, ring)))
                    self.assertEqual(ring_of(system), ring)
                else:
                    self.assertEqual(error_of(lambda: system_of_ring(many, ring)).__class__, InvalidOperation)

    def test_signs_are_right(self):
        for many, rings in RINGS.items():
            for ring in rings[::5]:
                self.assertEqual(signs_paper(many, 2, plain_signs(many, ring)), ("signs",))
                self.assertEqual(System(system_of_ring(many, ring).rounds).signs, plain_signs(many, ring))

    def test_all_systems(self):
        """[16.2]: each system of the rank 2 has just one ring."""
        for system in RANK_TWO:
            ring = ring_of(system)
            self.assertIs(is_ring(system.many, ring), True)
            self.assertEqual(system_of_ring(system.many, ring), system)
        for many in range(3, 5):
            systems = [system for system in TINY + FOUR if (system.many, system.rank) == (many, 2)]
            self.assertEqual(sorted(ring_of(system) for system in systems), sorted(RINGS[many]))

    def test_groups_and_loops(self):
        """[16.3]."""
        for system in RANK_TWO:
            ring = ring_of(system)
            self.assertEqual(sorted(tuple(thing for thing, _ in group) for group in ring), sorted(system.alike))
            signs = {thing: sign for group in ring for thing, sign in group}
            self.assertEqual(sorted(signs), [thing for thing in range(system.many) if thing not in system.loops])
            for row in system.rounds:
                things = [thing for thing in range(system.many) if row[thing] != "0"]
                if len(things) == 2:
                    self.assertIs(row[things[0]] == row[things[1]], signs[things[0]] != signs[things[1]])

    def test_more_things_than_in_the_ring(self):
        for ring in RINGS[3][::3]:
            for many in range(3, 10):
                system = system_of_ring(many, ring)
                used = {thing for group in ring for thing, _ in group}
                self.assertEqual(system.loops, tuple(thing for thing in range(many) if thing not in used))
                self.assertEqual(ring_of(system), ring)
                self.assertIs(is_ring(many, ring), True)

    def test_nine_things(self):
        ring = (((0, "+"), (4, "-")), ((2, "-"), (8, "+")), ((1, "+"),), ((3, "-"), (5, "-"), (7, "+")))
        self.assertIs(is_ring(9, ring), True)
        self.assertEqual(ring_of(system_of_ring(9, ring)), ring)
        self.assertEqual(ring_of(System.of_table(curve(9, 2))), tuple(((thing, "+"),) for thing in range(9)))

    def test_turned_and_renamed(self):
        """A system turned at a thing in a later group has the ring with the other sign there."""
        for system in RANK_TWO[::3]:
            for things in all_things(system.many)[::3]:
                other = system.turned_at(things)
                self.assertEqual(system_of_ring(other.many, ring_of(other)), other)
                self.assertEqual(sorted(tuple(thing for thing, _ in group) for group in ring_of(other)), sorted(system.alike))

    def test_counts(self):
        """[16.8]."""
        for many in range(5):
            self.assertEqual(ring_count(many), len(RINGS[many]))
        orders = [1]
        for size in range(1, 9):
            orders.append(sum(comb(size, first) * orders[size - first] for first in range(1, size + 1)))
        self.assertEqual(orders[:5], [len(orders_of_groups(range(size))) for size in range(5)])
        for many in range(10):
            expected = sum(comb(many, size) * 2 ** (size - 2) * (2 * orders[size - 1] - 1) for size in range(2, many + 1))
            self.assertEqual(ring_count(many), expected)

    def test_no_other_value(self):
        for many, ring in ((4, ring_of(LINE)), (4, ring_of(MIXED)), (5, (((0, "+"), (2, "-")), ((3, "+"),), ((4, "-"),)))):
            def is_right(value):
                return is_formed(value, many) and is_plain_ring(value)
            check_judged(self, lambda value: is_ring(many, value), [ring], is_right)
            for places in permutations(range(len(ring))):
                other = tuple(ring[place] for place in places)
                self.assertIs(is_ring(many, other), is_plain_ring(other))
        for many in range(3):
            for value in RINGS[3]:
                self.assertIs(is_ring(many, value), value in RINGS[many])


def is_formed(value, many):
    """Whether a value is a tuple of two groups or more of unlike things."""
    if not isinstance(value, tuple) or len(value) < 2:
        return False
    for group in value:
        if not isinstance(group, tuple) or not group or not all(isinstance(pair, tuple) and len(pair) == 2 for pair in group):
            return False
        if not all(sign in ("+", "-") and is_between(thing, 0, many - 1) for thing, sign in group):
            return False
        if [thing for thing, _ in group] != sorted(thing for thing, _ in group):
            return False
    things = [thing for group in value for thing, _ in group]
    return len(set(things)) == len(things)


class BalanceTest(unittest.TestCase):
    def test_all_lots(self):
        """[16.4]."""
        for many, rings in RINGS.items():
            for ring in rings:
                for things in all_things(many):
                    self.assertIs(does_balance(many, ring, things), is_balanced(ring, things))

    def test_faces(self):
        """[16.5]."""
        for many, rings in RINGS.items():
            for ring in rings:
                views = plain_views(~system_of_ring(many, ring))
                expected = {tuple(at for at, sign in enumerate(row) if sign == "0") for row in views if "-" not in row}
                self.assertEqual(ring_faces(many, ring), tuple(sorted(expected)))
                self.assertEqual(ring_faces(many, ring), tuple(sorted(
                    lot for lot in all_things(many) if is_balanced(ring, [one for one in range(many) if one not in lot]))))

    def test_greater_faces(self):
        for system in [one for one in RANK_TWO if one.many == 5][::9] + [System.of_table(curve(7, 2)).turned_at((1, 4, 5))]:
            views = plain_views(~system)
            expected = {tuple(at for at, sign in enumerate(row) if sign == "0") for row in views if "-" not in row}
            self.assertEqual(ring_faces(system.many, ring_of(system)), tuple(sorted(expected)))

    def test_loops_do_not_matter(self):
        for ring in RINGS[3]:
            used = {thing for group in ring for thing, _ in group}
            for things in all_things(5):
                own = tuple(thing for thing in things if thing in used)
                self.assertIs(does_balance(5, ring, things), does_balance(5, ring, own))

    def test_two_groups(self):
        ring = (((0, "+"), (2, "-")), ((1, "+"), (3, "-")))
        expected = {(): True, (0,): False, (0, 2): True, (1, 3): True, (0, 1): False, (0, 1, 2): False, (0, 1, 2, 3): True}
        for things, right in expected.items():
            self.assertIs(does_balance(4, ring, things), right)

    def test_rings_with_minus_at_the_least_other_thing(self):
        """The document gives what comes of such a one."""
        self.assertIs(is_ring(4, TURN), False)
        for many, rings in SIGNED.items():
            for ring in [one for one in rings if one not in RINGS[many]]:
                if has_least_first(ring):
                    self.assertEqual(ring_faces(many, ring), tuple(sorted(
                        lot for lot in all_things(many) if is_balanced(ring, [one for one in range(many) if one not in lot]))))
                    for things in all_things(many)[::3]:
                        self.assertIs(does_balance(many, ring, things), is_balanced(ring, things))
                else:
                    self.assertEqual(error_of(lambda: ring_faces(many, ring)).__class__, InvalidOperation)
                    self.assertEqual(error_of(lambda: does_balance(many, ring, ())).__class__, InvalidOperation)


class AlternatingTest(unittest.TestCase):
    def test_systems(self):
        """[16.6]."""
        for many in range(10):
            for rank in range(many + 1):
                system = alternating(many, rank)
                self.assertEqual((system.many, system.rank, system.signs), (many, rank, "+" * comb(many, rank)))
                self.assertEqual(system, System.of_table(curve(many, rank)))
                self.assertEqual(system.bases, tuple(lots(many, rank)))
                turns = ("+-" * 5)[:rank + 1]
                for row in system.rounds:
                    self.assertIn(row.replace("0", ""), (turns, turns.translate(str.maketrans("+-", "-+"))))
                self.assertEqual(len(system.rounds), 2 * comb(many, rank + 1))

    def test_even_lots(self):
        """[16.7]."""
        for many in range(10):
            for size in range(many + 1):
                expected = tuple(lot for lot in lots(many, size) if is_even(many, lot))
                self.assertEqual(even_lots(many, size), expected)
            for lot in all_things(many):
                self.assertIs(is_gap_even(many, lot), is_even(many, lot))

    def test_cuts_of_even_lots(self):
        for many in range(1, 9):
            for rank in range(1, many + 1):
                found = {tuple(at for at, sign in enumerate(row) if sign == "0") for row in alternating(many,
                        rank).cuts if "-" not in row}
                self.assertEqual(tuple(sorted(found)), even_lots(many, rank - 1))

    def test_numbers_of_even_lots(self):
        def choices(size, count):
            return comb(size, count) if 0 <= count <= size else 0
        for many in range(1, 10):
            for size in range(1, many):
                half = size // 2
                if size % 2 == 0:
                    expected = choices(many - half, half) + choices(many - half - 1, half - 1)
                else:
                    expected = 2 * choices(many - half - 1, half)
                self.assertEqual(len(even_lots(many, size)), expected)

    def test_lesser_lots(self):
        """[16.7]: lots of at most half as many things are where views without "-" are "0"."""
        for many in range(2, 8):
            for rank in range(2, many + 1):
                system = alternating(many, rank)
                zeros = {tuple(at for at, sign in enumerate(row) if sign == "0") for row in system.views() if "-" not in row}
                for lot in [one for one in all_things(many) if len(one) <= (rank - 1) // 2]:
                    self.assertIn(lot, zeros)
                    self.assertTrue(any(set(lot) <= set(other) for other in even_lots(many, rank - 1)))


class ErrorsTest(unittest.TestCase):
    def test_wrong_arguments(self):
        def is_right(value):
            return is_formed(value, 4) and is_plain_ring(value)

        def is_turned(value):
            return is_formed(value, 4) and has_least_first(value)
        is_many = (InvalidNumber, lambda value: is_between(value, 0, 9))
        ring = ring_of(LINE)
        lot = (InvalidOperation, lambda value: is_things(value, 4))
        size = (InvalidNumber, lambda value: is_between(value, 0, 4))
        Wrong(ring_of, (LINE,), ((InvalidSystem, lambda value: isinstance(value, System)),)).check(self)
        Wrong(system_of_ring, (4, ring), (is_many, (InvalidOperation, is_right))).check(self)
        Wrong(does_balance, (4, ring, (0, 1)), (is_many, (InvalidOperation, is_turned), lot)).check(self)
        Wrong(ring_faces, (4, ring), (is_many, (InvalidOperation, is_turned))).check(self)
        Wrong(lambda many: is_ring(many, None), (4,), (is_many,)).check(self)
        Wrong(ring_count, (4,), (is_many,)).check(self)
        Wrong(alternating, (4, 2), (is_many, size)).check(self)
        Wrong(even_lots, (4, 2), (is_many, size)).check(self)
        Wrong(is_gap_even, (4, (0, 1)), (is_many, lot)).check(self)

    def test_ranks(self):
        for system in TINY + FOUR[::3] + [PLANE] + CURVES:
            if system.rank != 2:
                self.assertEqual(told_by(error_of(lambda: ring_of(system))), (Refused, ("rank", system.rank)))

    def test_wrong_rings(self):
        wrong = ((), (((0, "+"),),), (((0, "+"),), ()), ((), ((0, "+"),)), (((0, "+"),), ((0, "+"),)),
                 (((0, "+"), (1, "+")), ((1, "+"),)),
                 (((0, "-"),), ((1, "+"),)), (((1, "+"),), ((0, "+"),)), (((0, "0"),), ((1, "+"),)), (((0, "+"),), ((4, "+"),)),
                 (((1, "+"), (0, "+")), ((2, "+"),)), (((0, "+"),), ((2, "+"), (1, "+"))),
                 (((0, "+"), (3, "+"), (2, "+")), ((1, "+"),)),
                 (((0, "+"), (2, "+"), (2, "-")), ((1, "+"),)), [((0, "+"),), ((1, "+"),)], ([(0, "+")], ((1, "+"),)),
                 (([0, "+"],), ((1, "+"),)),
                 (((0, "+"),), ((True, "+"),)), (((False, "+"),), ((1, "+"),)), (((0, "+", "+"),), ((1, "+"),)),
                 (((0,),), ((1, "+"),)),
                 (((0, "+"),), ((-1, "+"),)), (((0, "+-"),), ((1, "+"),)), (((0, ""),), ((1, "+"),)),
                 (((0, None),), ((1, "+"),)))
        for ring in wrong:
            self.assertIs(is_ring(4, ring), False)
            for call in (lambda: system_of_ring(4, ring), lambda: does_balance(4, ring, None), lambda: ring_faces(4, ring)):
                self.assertEqual(error_of(call).__class__, InvalidOperation)
        self.assertEqual(error_of(lambda: system_of_ring(4, TURN)).__class__, InvalidOperation)
        self.assertEqual(error_of(lambda: does_balance(3, TURN, ())).__class__, InvalidOperation)

    def test_tables(self):
        """Rings of tables with columns of two integers."""
        fan = System.of_table(Table(6, ((2, -3, 0, 4, 0, 1), (1, 5, 0, 2, -7, 1))))
        self.assertEqual(system_of_ring(6, ring_of(fan)), fan)
        self.assertEqual(fan.alike, ((0, 3), (1,), (4,), (5,)))


if __name__ == "__main__":
    unittest.main()
