"""Hulls: [0.20], [9.1] to [9.9] and the functions of stage 9."""

import unittest
from itertools import combinations, product

from sidesigns.errors import InvalidNumber, InvalidOperation, InvalidSystem, Refused
from sidesigns.hull.hulls import (convex_lots, corners, face_counts, faces, free_lots, free_sums, holders, hull, hull_paper,
                                  inner_things, is_hull_paper, is_parted, parted)
from sidesigns.system.systems import System
from sidesigns.table.tables import Table
from support import POOL, Wrong, are_upright, curve, error_of, has, is_between, is_things, rows_of, told_by
from worlds import FIVE, FOUR, LINE, MIXED, PLANE, SIX, TINY, all_things, bent, eight, plain_views


def is_good(system):
    return system.is_simple and system.is_open


GOOD = [system for system in TINY + FOUR + FIVE + SIX if is_good(system)]
# Points of small integers in the plane, and in space.
POINTS = [System.of_table(Table(6, ((1,) * 6, xs, ys))) for xs, ys in (
    ((0, 1, 2, 0, 1, 2), (0, 0, 0, 1, 1, 1)), ((0, 4, 4, 0, 1, 2), (0, 0, 4, 4, 2, 1)), ((0, 6, 3, 3, 2, 4), (0, 0, 6, 2, 1, 1)),
    ((0, 2, 4, 1, 3, 2), (0, 0, 0, 2, 2, 4)))] + [
    System.of_table(Table(6, ((1,) * 6, (0, 2, 0, 0, 1, 1), (0, 0, 2, 0, 1, 1), (0, 0, 0, 2, 1, -1))))]
SOME = GOOD + POINTS + [LINE, PLANE]


def plain_hull(system, things):
    """The hull of [9.1]."""
    found = set(things)
    for row in system.rounds:
        minus = [thing for thing in has(row) if row[thing] == "-"]
        if len(minus) == 1 and has(row) - set(minus) <= set(things):
            found.update(minus)
    return tuple(sorted(found))


def without(things, thing):
    return tuple(one for one in things if one != thing)


def plain_corners(system, things):
    return tuple(thing for thing in things if thing not in plain_hull(system, without(things, thing)))


def plain_faces(system):
    """The faces of [9.5]."""
    found = {tuple(at for at in range(system.many) if row[at] == "0") for row in plain_views(system) if "-" not in row}
    return tuple(sorted(found, key=lambda face: (system.rank_of(face), face)))


def is_right(system, things, thing, value):
    """Whether a paper of a right form tells whether a thing is in the hull [9.3]."""
    if value == ("member",):
        return thing in things
    if thing in things:
        return False
    word, row = value
    if word == "round":
        return row in system.rounds.rows and row[thing] == "-" and row.count("-") == 1 and has(row) <= {thing, *things}
    return row in system.cuts.rows and row[thing] == "-" and all(row[one] != "-" for one in things)


class HullTest(unittest.TestCase):
    def test_hulls_and_corners(self):
        for system in SOME + [bent()]:
            for things in all_things(system.many)[::1 if system.many < 7 else 9]:
                self.assertEqual(hull(system, things), plain_hull(system, things))
                self.assertEqual(corners(system, things), plain_corners(system, things))

    def test_statements(self):
        """[9.1], [9.2]."""
        for system in SOME[::2] + POINTS:
            for things in all_things(system.many):
                whole, ends = hull(system, things), corners(system, things)
                self.assertEqual(hull(system, whole), whole)
                self.assertEqual((corners(system, whole), hull(system, ends)), (ends, whole))
                for thing in set(range(system.many)) - set(things):
                    cuts = [row for row in system.cuts if row[thing] == "-" and all(row[one] != "-" for one in things)]
                    self.assertIs(thing in whole, not cuts)
                if whole == things:
                    for thing in things:
                        less = without(things, thing)
                        self.assertIs(hull(system, less) == less, thing in ends)
                    for one, other in combinations(set(range(system.many)) - set(things), 2):
                        both = (one in hull(system, tuple(sorted({*things, other}))),
                                other in hull(system, tuple(sorted({*things, one}))))
                        self.assertNotEqual(both, (True, True))

    def test_papers(self):
        for system in SOME[::2] + POINTS + [eight()]:
            if is_good(system):
                for things in all_things(system.many)[::1 if system.many < 6 else 7]:
                    for thing in range(system.many):
                        paper = hull_paper(system, things, thing)
                        self.assertTrue(is_right(system, things, thing, paper))
                        word = "member" if thing in things else "round" if thing in hull(system, things) else "cut"
                        self.assertEqual(paper[0], word)
                        self.assertIs(is_hull_paper(system, things, thing, paper), True)

    def test_papers_judged(self):
        for system in GOOD[:30:3] + [LINE]:
            for things, thing in list(product(all_things(system.many), range(system.many)))[::3]:
                for word, row in product(("round", "cut"), rows_of(system.many)):
                    right = is_right(system, things, thing, (word, row))
                    self.assertIs(is_hull_paper(system, things, thing, (word, row)), right)
                self.assertIs(is_hull_paper(system, things, thing, ("member",)), thing in things)

    def test_no_other_value(self):
        for value in POOL:
            self.assertIs(is_hull_paper(LINE, (0, 3), 1, value), False)
            self.assertIs(is_hull_paper(LINE, (0, 3), 3, value), value == ("member",))
            for told in (("round", value), ("cut", value), ("member", value), (value, "+-0+"), ["round", "+-0+"],
                         ("round", "+-0+", value)):
                self.assertIs(is_hull_paper(LINE, (0, 3), 1, told), False)
        self.assertIs(is_hull_paper(LINE, (0, 3), 1, ("round", "+-0+")), True)

    def test_convex_and_free_lots(self):
        """[9.1], [9.3]."""
        for system in GOOD + POINTS:
            lots = all_things(system.many)
            convex = [things for things in lots if plain_hull(system, things) == things]
            self.assertEqual(list(convex_lots(system)), convex)
            free = [things for things in convex if plain_corners(system, things) == things]
            self.assertEqual(list(free_lots(system)), free)

    def test_free_sums(self):
        """[9.4]."""
        for system in GOOD + POINTS + [bent(), System.of_table(curve(9, 4))]:
            free = list(free_lots(system))
            first = sum((-1) ** len(lot) for lot in free)
            second = sum(-len(lot) * (-1) ** len(lot) for lot in free)
            self.assertEqual(free_sums(system), (first, second))
            if system.many == 0:
                self.assertEqual((first, second), (1, 0))
            else:
                sign = 1 if system.rank % 2 else -1
                self.assertEqual((first, second), (0, sign * len(inner_things(system))))

    def test_inner_things(self):
        for system in GOOD + POINTS:
            cuts = [row for row in system.cuts if "-" not in row]
            found = [thing for thing in range(system.many) if all(row[thing] == "+" for row in cuts)]
            self.assertEqual(inner_things(system), tuple(found))
            whole = tuple(range(system.many))
            lying = [thing for thing in whole if all(thing not in face for face in plain_faces(system) if face != whole)]
            self.assertEqual(found, lying)


class FacesTest(unittest.TestCase):
    def test_faces(self):
        for system in GOOD + POINTS:
            found = faces(system)
            self.assertEqual(found, plain_faces(system))
            ranks = [system.rank_of(face) for face in found]
            self.assertEqual(face_counts(system), tuple(ranks.count(rank) for rank in range(system.rank + 1)))

    def test_statements(self):
        """[9.5], [9.6]."""
        for system in GOOD[::2] + POINTS + [bent()]:
            found, whole = faces(system), tuple(range(system.many))
            self.assertIn(whole, found)
            self.assertIn((), found)
            for one, other in product(found, repeat=2):
                self.assertIn(tuple(sorted(set(one) & set(other))), found)
            for face in found:
                self.assertEqual((hull(system, face), system.flat_of(face)), (face, face))
            self.assertEqual({face[0] for face in found if len(face) == 1}, set(corners(system, whole)))
            ranks = {face: system.rank_of(face) for face in found}
            for one, other in product(found, repeat=2):
                if ranks[one] == ranks[other] - 2 and set(one) < set(other):
                    between = [face for face in found if set(one) < set(face) < set(other)]
                    self.assertEqual(len(between), 2)
            if system.rank:
                self.assertEqual(sum(count * (-1) ** rank for rank, count in enumerate(face_counts(system))), 0)

    def test_larger(self):
        cyclic = System.of_table(curve(9, 5))
        self.assertEqual(face_counts(cyclic), (1, 9, 36, 54, 27, 1))
        free = System.free(9)
        self.assertEqual(face_counts(free), (1, 9, 36, 84, 126, 126, 84, 36, 9, 1))
        self.assertEqual(len(list(convex_lots(free))), 512)


class HoldersTest(unittest.TestCase):
    def test_holders(self):
        """[9.7]."""
        for system in SOME[::2] + POINTS:
            lots = all_things(system.many)
            for things in lots[::3]:
                for thing in range(system.many):
                    having = [lot for lot in lots if set(lot) <= set(things) and thing in plain_hull(system, lot)]
                    least = [lot for lot in having if not any(set(other) < set(lot) for other in having)]
                    found = holders(system, things, thing)
                    self.assertEqual(found, tuple(sorted(least, key=lambda lot: (len(lot), lot))))
                    for lot in found:
                        self.assertLessEqual(len(lot), system.rank)
                        self.assertEqual(corners(system, lot), lot)


def is_parting(row, one, other):
    return all(row[thing] == "+" for thing in one) and all(row[thing] == "-" for thing in other)


def is_meeting(row, one, other):
    return bool(has(row)) and all(thing in (one if row[thing] == "+" else other) for thing in has(row))


def two_lots(many):
    return [(one, other) for one, other in product(all_things(many), repeat=2) if not set(one) & set(other)]


class PartedTest(unittest.TestCase):
    def test_either(self):
        """[9.8]."""
        for system in SOME[::3] + POINTS[:2]:
            views = plain_views(system)
            sums = [row for row in rows_of(system.many) if all(are_upright(row, cut) for cut in system.cuts)]
            for one, other in two_lots(system.many)[::5]:
                parting = any(is_parting(row, one, other) for row in views)
                meeting = any(is_meeting(row, one, other) for row in sums)
                self.assertNotEqual(parting, meeting)
                word, row = parted(system, one, other)
                self.assertEqual(word, "view" if parting else "sum")
                self.assertIn(row, views if parting else sums)
                self.assertTrue(is_parting(row, one, other) if parting else is_meeting(row, one, other))
                self.assertIs(is_parted(system, one, other, (word, row)), True)

    def test_more_things_than_the_rank(self):
        for system in GOOD[::4]:
            for things in all_things(system.many):
                if len(things) > system.rank:
                    splits = [(one, tuple(sorted(set(things) - set(one)))) for one in all_things(system.many)
                              if set(one) <= set(things)]
                    self.assertTrue(any(parted(system, one, other)[0] == "sum" for one, other in splits))

    def test_judged(self):
        for system in GOOD[:40:7] + [LINE]:
            views = plain_views(system)
            sums = [row for row in rows_of(system.many) if all(are_upright(row, cut) for cut in system.cuts)]
            for one, other in two_lots(system.many)[::4]:
                for row in rows_of(system.many):
                    right = row in views and is_parting(row, one, other)
                    self.assertIs(is_parted(system, one, other, ("view", row)), right)
                    right = row in sums and is_meeting(row, one, other)
                    self.assertIs(is_parted(system, one, other, ("sum", row)), right)

    def test_no_other_value(self):
        self.assertIs(is_parted(LINE, (0, 1), (2, 3), ("view", "++--")), True)
        self.assertIs(is_parted(LINE, (0, 2), (1, 3), ("sum", "+-+0")), True)
        for value in POOL:
            for lots in (((0, 1), (2, 3)), ((0, 2), (1, 3))):
                self.assertIs(is_parted(LINE, *lots, value), False)
                for told in (("view", value), ("sum", value), (value, "++--"), ["view", "++--"], ("view", "++--", value)):
                    self.assertIs(is_parted(LINE, *lots, told), False)

    def test_edges(self):
        self.assertEqual(parted(System.free(0), (), ()), ("view", ""))
        self.assertIs(is_parted(System.free(0), (), (), ("sum", "")), False)
        for system in (LINE, PLANE, System.free(3)):
            self.assertIs(is_parted(system, (), (), ("view", "0" * system.many)), True)
            self.assertIs(is_parted(system, (), (), ("sum", "0" * system.many)), False)
        free = System.free(9)
        self.assertEqual(parted(free, tuple(range(5)), tuple(range(5, 9))), ("view", "+++++----"))


class WrongArguments(unittest.TestCase):
    def kinds(self, system, *more):
        return ((InvalidSystem, lambda value: isinstance(value, System)),) + more

    def test_wrong(self):
        system = System.free(3)
        things = (InvalidOperation, lambda value: is_things(value, 3))
        thing = (InvalidNumber, lambda value: is_between(value, 0, 2))
        for call in (convex_lots, free_lots, free_sums, inner_things, faces, face_counts):
            Wrong(call, (system,), self.kinds(system)).check(self)
        for call in (hull, corners):
            Wrong(call, (system, (0, 2)), self.kinds(system, things)).check(self)
        for call in (hull_paper, holders, lambda *told: is_hull_paper(*told, None)):
            Wrong(call, (system, (0, 2), 1), self.kinds(system, things, thing)).check(self)
        for call in (parted, lambda *told: is_parted(*told, None)):
            Wrong(call, (system, (), ()), self.kinds(system, things, things)).check(self)
            for one, other in (((0,), (0,)), ((0, 1, 2), (1,)), ((1,), (0, 1))):
                self.assertEqual(error_of(lambda: call(system, one, other)).__class__, InvalidOperation)
            self.assertEqual(error_of(lambda: call(MIXED, (0,), (0,))).__class__, InvalidOperation)

    def test_neither_simple_nor_open(self):
        calls = (convex_lots, free_lots, free_sums, inner_things, faces, face_counts, lambda system: hull(system, ()),
                 lambda system: corners(system, ()), lambda system: hull_paper(system, (), 0),
                 lambda system: is_hull_paper(system, (), 0, None), lambda system: holders(system, (), 0),
                 lambda system: parted(system, (), ()), lambda system: is_parted(system, (), (), None))
        for system in TINY + FOUR[::4]:
            if system.many:
                expected = (Refused, ("simple",)) if not system.is_simple else (Refused, ("open",))
                for call in calls:
                    error = error_of(lambda: drawn_out(call(system)))
                    self.assertEqual(told_by(error), (type(None), None) if is_good(system) else expected)
        self.assertEqual(told_by(error_of(lambda: hull(~LINE, ()))), (Refused, ("open",)))
        self.assertEqual(told_by(error_of(lambda: hull(MIXED, ()))), (Refused, ("simple",)))
        for value in ((4,), (1, 0), [0], None):
            self.assertEqual(error_of(lambda: hull(MIXED, value)).__class__, InvalidOperation)
        self.assertEqual(error_of(lambda: holders(MIXED, (), 4)).__class__, InvalidNumber)

    def test_nothing_changes(self):
        for system in SOME[::4]:
            before = (system.signs, system.rounds.rows, system.cuts.rows)
            whole = tuple(range(system.many))
            results = [(hull(system, ()), corners(system, whole), list(convex_lots(system)), list(free_lots(system)),
                        free_sums(system), inner_things(system), faces(system), face_counts(system), parted(system, (), whole))
                       for _ in range(2)]
            self.assertEqual(results[0], results[1])
            self.assertEqual((system.signs, system.rounds.rows, system.cuts.rows), before)


def drawn_out(value):
    return next(value) if hasattr(value, "__next__") else value


if __name__ == "__main__":
    unittest.main()
