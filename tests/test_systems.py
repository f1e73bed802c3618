"""Systems: [4.1] to [4.7] and class System."""

import unittest
from itertools import permutations, product

from sidesigns.errors import InvalidLot, InvalidNumber, InvalidOperation, InvalidOrder, InvalidTable, Refused, TooMany
from sidesigns.rows.rows import Lot
from sidesigns.system.rounds import rounds_paper
from sidesigns.system.systems import System
from sidesigns.table.tables import Table
from support import (POOL, Wrong, all_layings, curve, error_of, has, is_between, is_things, lots_of_rows, opposite,
                     rows_of, told_by)
from worlds import (COLUMNED, CURVES, DRAWN, FIVE, FOUR, LINE, MIXED, PLANE, SIX, TINY, all_things, bent, eight, lots, plain_bases,
                    plain_classes, plain_cuts, plain_flat, plain_left_out, plain_loops, plain_rank, plain_regions,
                    plain_shrunk, plain_views, sign_in, turned)

SMALL = TINY + FOUR
SOME = TINY + FOUR + FIVE[::6] + SIX[::3]


def is_lot(value):
    return isinstance(value, Lot)


def is_rounds(value):
    return is_lot(value) and rounds_paper(value) == ("rounds",)


def is_base_of(system):
    return lambda value: is_things(value, system.many) and value in system.bases


class MadeTest(unittest.TestCase):
    def test_how_many_there_are(self):
        self.assertEqual([sum(system.many == many for system in TINY) for many in range(4)], [1, 2, 6, 28])
        for one, other in product(range(len(FOUR)), repeat=2):
            self.assertEqual(FOUR[one] == FOUR[other], one == other)

    def test_of_rounds(self):
        for system in SMALL + FIVE + SIX + CURVES + COLUMNED:
            again = System(system.rounds)
            self.assertEqual((again.many, again.rank, again.signs, again.bases), (system.many, system.rank, system.signs,
                                                                                  system.bases))
            self.assertEqual((again.rounds, again.cuts), (system.rounds, system.cuts))
            self.assertEqual(again, system)

    def test_refused(self):
        for lot in lots_of_rows(2, range(10)) + lots_of_rows(3, range(3)) + lots_of_rows(0, range(2)):
            paper = rounds_paper(lot)
            for call in (System, System.of_cuts):
                if paper != ("rounds",):
                    self.assertEqual(told_by(error_of(lambda: call(lot))), (Refused, paper))
                else:
                    self.assertIsNone(error_of(lambda: call(lot)))

    def test_of_cuts(self):
        for system in SMALL + FIVE + CURVES:
            self.assertEqual(System.of_cuts(system.cuts), system)
            self.assertEqual(System.of_cuts(system.rounds), ~system)

    def test_of_table(self):
        for many in range(10):
            for rank in range(many + 1):
                table = curve(many, rank)
                system = System.of_table(table)
                self.assertEqual((system.many, system.rank, system.signs), (many, rank, table.signs))
                self.assertEqual((system.rounds, system.cuts), (table.rounds, table.cuts))
        long = Table(3, ((10 ** 59, 7 * 10 ** 58, 3), (1, 10 ** 59, 10 ** 59 - 1))).upright_table().upright_table()
        self.assertEqual(System.of_table(long).rounds, long.rounds)

    def test_free(self):
        for many in range(10):
            system = System.free(many)
            self.assertEqual((system.many, system.rank, system.signs, len(system.rounds)), (many, many, "+", 0))
            self.assertEqual((system.bases, system.pillars, system.loops), ((tuple(range(many)),), tuple(range(many)), ()))
            self.assertEqual(str(system), f"{many} things, rank {many}: +")
            self.assertEqual(str(~system), f"{many} things, rank 0: +")
            self.assertEqual((~system).loops, tuple(range(many)))
            self.assertEqual(system, System(Lot(many)))

    def test_drawn_by_no_table(self):
        for system, size in ((bent(), 9), (eight(), 8)):
            self.assertEqual((system.many, System(system.rounds), ~~system), (size, system, system))
            self.assertEqual(System.of_cuts(system.cuts), system)
            self.assertFalse(system.is_general)


class PropertiesTest(unittest.TestCase):
    def test_plain_words(self):
        for system in SMALL + FIVE + SIX[::2] + COLUMNED[::3]:
            rounds = list(system.rounds)
            self.assertEqual(list(system.cuts), plain_cuts(rounds, system.many))
            self.assertEqual(system.bases, plain_bases(rounds, system.many))
            self.assertEqual(system.rank, len(system.bases[0]))
            self.assertEqual(set(system.loops), plain_loops(system))
            pillars = {thing for row in system.cuts if len(has(row)) == 1 for thing in has(row)}
            self.assertEqual(set(system.pillars), pillars)
            self.assertEqual(pillars, set.intersection(set(range(system.many)), *map(set, system.bases)))
            self.assertEqual(system.alike, plain_classes(system))
            for things in (system.loops, system.pillars):
                self.assertEqual(things, tuple(sorted(things)))

    def test_alike_things_stand_in_the_same_cuts(self):
        """[0.14] and [4.3]."""
        for system in SMALL + FIVE:
            for lot in system.alike:
                for row in system.cuts:
                    self.assertIn(has(row) & set(lot), (set(), set(lot)))
            parts = [thing for lot in system.alike for thing in lot]
            self.assertEqual(sorted(parts), sorted(set(range(system.many)) - set(system.loops)))

    def test_kinds(self):
        """[0.14]."""
        for system in SMALL + FIVE + CURVES:
            self.assertIs(system.is_simple, not system.loops and all(len(lot) == 1 for lot in system.alike))
            self.assertIs(system.is_open, all("+" in row and "-" in row for row in system.rounds))
            self.assertIs(system.is_general, len(system.bases) == len(lots(system.many, system.rank)))

    def test_base_signs(self):
        """[4.2], word by word."""
        for system in SMALL + FIVE + SIX + COLUMNED[::5]:
            told = lots(system.many, system.rank)
            self.assertEqual(len(system.signs), len(told))
            signs = dict(zip(told, system.signs))
            self.assertEqual(tuple(one for one in told if signs[one] != "0"), system.bases)
            self.assertEqual(signs[system.bases[0]], "+")
            for base in system.bases:
                for thing, other in product(base, set(range(system.many)) - set(base)):
                    order = tuple(other if one == thing else one for one in base)
                    if tuple(sorted(order)) in system.bases:
                        row = next(row for row in system.rounds if row[other] == "+" and has(row) <= {other, *base})
                        sign = signs[base] if row[thing] != row[other] else opposite(signs[base])
                        self.assertEqual(sign_in(signs, order), sign)

    def test_sign_of_orders(self):
        for system in TINY + FOUR + FIVE[::20]:
            signs = dict(zip(lots(system.many, system.rank), system.signs))
            for order in product(range(system.many), repeat=system.rank):
                self.assertEqual(system.sign(order), sign_in(signs, order))
        self.assertEqual(System.free(0).sign(()), "+")
        self.assertEqual((~System.free(4)).sign(()), "+")

    def test_rounds_and_cuts_of_bases(self):
        """[0.13]: there is just one of each."""
        for system in SMALL + FIVE[::3]:
            for base in system.bases:
                outside = set(range(system.many)) - set(base)
                for thing in outside:
                    found = [row for row in system.rounds if row[thing] == "+" and has(row) <= {thing, *base}]
                    self.assertEqual([system.round_of(base, thing)], found)
                for thing in base:
                    found = [row for row in system.cuts if row[thing] == "+" and has(row) <= {thing, *outside}]
                    self.assertEqual([system.cut_of(base, thing)], found)


class ViewsTest(unittest.TestCase):
    def test_plain_words(self):
        """[0.15], [4.4]: layings of cuts, and rows upright to all rounds."""
        for system in SMALL + FIVE[::2] + SIX[::4]:
            views = list(system.views())
            self.assertEqual(views, plain_views(system))
            self.assertEqual(list(system.regions()), plain_regions(system))
        for system in TINY + FOUR[::4]:
            self.assertEqual(list(system.views()), all_layings(system.cuts.rows, system.many))

    def test_rank_zero(self):
        for many in range(10):
            system = ~System.free(many)
            self.assertEqual((list(system.views()), list(system.regions())), (["0" * many], ["0" * many]))

    def test_too_many_views(self):
        for many in (8, 9):
            system = System.free(many)
            self.assertEqual(len(system.regions()), 2 ** many)
            self.assertEqual(list(system.regions()), [row for row in rows_of(many) if "0" not in row])
        self.assertEqual(len(System.free(8).views()), 3 ** 8)
        self.assertEqual(told_by(error_of(System.free(9).views)), (TooMany, 7000))
        loop = ~System.free(1)
        self.assertEqual(len((System.free(8) + loop).views()), 3 ** 8)
        self.assertEqual(len((System.free(8) + loop).regions()), 2 ** 8)

    def test_of_nine_things(self):
        for rank in (1, 2, 3, 5):
            system = System.of_table(curve(9, rank))
            views = set(system.views())
            regions = list(system.regions())
            self.assertEqual(regions, sorted(row for row in views if "0" not in row))
            self.assertTrue(set(system.cuts) <= views)
        self.assertEqual(len(System.of_table(curve(9, 4)).regions()), 186)


class RanksTest(unittest.TestCase):
    def test_ranks_and_flats(self):
        """[4.5], over all lots of things."""
        for system in SMALL + FIVE[::5] + SIX[::5] + COLUMNED[::20]:
            flats = []
            for things in all_things(system.many):
                self.assertEqual(system.rank_of(things), plain_rank(system, things))
                self.assertEqual(system.flat_of(things), plain_flat(system, things))
                if plain_flat(system, things) == things:
                    flats.append(things)
            expected = sorted(flats, key=lambda flat: (plain_rank(system, flat), flat))
            self.assertEqual(system.flats(), tuple(expected))

    def test_zeros_of_views(self):
        """[4.5]: flats; and those of cuts are the flats of the rank below."""
        for system in SMALL + FIVE[::9]:
            flats = system.flats()
            for row in system.views():
                self.assertIn(tuple(at for at in range(system.many) if row[at] == "0"), flats)
            zeros = {tuple(at for at in range(system.many) if row[at] == "0") for row in system.cuts}
            self.assertEqual(zeros, {flat for flat in flats if system.rank_of(flat) == system.rank - 1})

    def test_edges(self):
        for many in range(10):
            system = System.free(many)
            self.assertEqual(len(system.flats()), 2 ** many)
            self.assertEqual((~system).flats(), (tuple(range(many)),))
            self.assertEqual((~system).flat_of(()), tuple(range(many)))
            self.assertEqual(system.rank_of(tuple(range(many))), many)


class ChangedTest(unittest.TestCase):
    def test_opposite(self):
        """[4.1], [4.7]."""
        for system in SMALL + FIVE + SIX + CURVES + COLUMNED:
            other = ~system
            self.assertEqual((other.rounds, other.cuts), (system.cuts, system.rounds))
            self.assertEqual(other.rank, system.many - system.rank)
            bases = {tuple(sorted(set(range(system.many)) - set(base))) for base in system.bases}
            self.assertEqual(other.bases, tuple(sorted(bases)))
            self.assertEqual(~other, system)
            self.assertEqual(System(other.rounds).signs, other.signs)

    def test_turned_at(self):
        for system in SOME:
            for things in all_things(system.many):
                other = system.turned_at(things)
                self.assertEqual(list(other.rounds), sorted(turned(row, things) for row in system.rounds))
                self.assertEqual(list(other.cuts), sorted(turned(row, things) for row in system.cuts))
                self.assertEqual(other.signs, System(other.rounds).signs)

    def test_left_out_and_shrunk(self):
        """[4.6], [4.7]."""
        for system in SOME:
            for things in all_things(system.many):
                left, shrunk = system.left_out(things), system.shrunk(things)
                rest = tuple(sorted(set(range(system.many)) - set(things)))
                self.assertEqual(list(left.rounds), plain_left_out(system.rounds, things))
                self.assertEqual(list(shrunk.rounds), plain_shrunk(system.rounds, things))
                self.assertEqual(list(left.cuts), plain_shrunk(system.cuts, things))
                self.assertEqual(list(shrunk.cuts), plain_left_out(system.cuts, things))
                self.assertEqual(left.many, len(rest))
                self.assertEqual(shrunk.many, len(rest))
                self.assertEqual(left.rank, system.rank_of(rest))
                self.assertEqual(shrunk.rank, system.rank - system.rank_of(things))
                self.assertEqual(~left, (~system).shrunk(things))
                for one in (left, shrunk):
                    self.assertEqual((System(one.rounds).signs, System(one.rounds).bases), (one.signs, one.bases))

    def test_renamed(self):
        for system in TINY + FOUR[::4] + FIVE[::40]:
            for order in permutations(range(system.many)):
                other = system.renamed(order)
                for lot, rows in ((other.rounds, system.rounds), (other.cuts, system.cuts)):
                    self.assertEqual(list(lot), sorted("".join(row[thing] for thing in order) for row in rows))
                self.assertEqual(other.signs, System(other.rounds).signs)
        nine = System.of_table(curve(9, 4))
        order = (8, 0, 7, 1, 6, 2, 5, 3, 4)
        self.assertEqual(System(nine.renamed(order).rounds).signs, nine.renamed(order).signs)

    def test_beside(self):
        """Systems beside each other, [4.7]."""
        for one, other in product(TINY[::2] + FOUR[::30], repeat=2):
            both = one + other
            rounds = [row + "0" * other.many for row in one.rounds] + ["0" * one.many + row for row in other.rounds]
            self.assertEqual(list(both.rounds), sorted(rounds))
            self.assertEqual((both.many, both.rank), (one.many + other.many, one.rank + other.rank))
            self.assertEqual(~both, ~one + ~other)
            self.assertEqual(System(both.rounds).signs, both.signs)

    def test_too_many_beside(self):
        for one, other in product(range(10), repeat=2):
            error = error_of(lambda: System.free(one) + ~System.free(other))
            self.assertEqual(told_by(error), (TooMany, 9) if one + other > 9 else (type(None), None))
        self.assertEqual(len(PLANE + LINE), 9)
        self.assertEqual(told_by(error_of(lambda: PLANE + PLANE)), (TooMany, 9))


class ValuesTest(unittest.TestCase):
    def test_equality(self):
        for one, other in product(SMALL[::6], repeat=2):
            same = one.many == other.many and list(one.rounds) == list(other.rounds)
            self.assertIs(one == other, same)
            self.assertIs(one != other, not same)

    def test_equality_accepts_every_value(self):
        for system in (System.free(3), System.free(0), LINE):
            for value in POOL:
                same = isinstance(value, System) and value.many == system.many and value.rounds == system.rounds
                self.assertIs(system == value, same)
                self.assertIs(value == system, same)
                self.assertIs(system != value, not same)

    def test_len_and_str(self):
        for system in SMALL + FIVE:
            self.assertEqual(len(system), system.many)
            self.assertEqual(str(system), f"{system.many} things, rank {system.rank}: {system.signs}")

    def test_operands_of_another_kind(self):
        for value in (None, 1, True, "+", (), [], {}, Lot(4), Table(4, ())):
            for call in (lambda: LINE + value, lambda: value + LINE, lambda: LINE - value, lambda: LINE < value):
                self.assertEqual(error_of(call).__class__, TypeError, value)

    def test_no_iteration_and_other_operators(self):
        for call in (lambda: list(LINE), lambda: LINE[0], lambda: 1 in LINE, lambda: -LINE, lambda: LINE < LINE,
                     lambda: LINE - LINE, lambda: LINE * 2, lambda: LINE | LINE):
            self.assertEqual(error_of(call).__class__, TypeError)

    def test_nothing_changes(self):
        for system in SOME[::20] + [MIXED, DRAWN]:
            before = (system.many, system.rank, system.signs, system.bases, system.rounds.rows, system.cuts.rows)
            for _ in range(2):
                results = [[system.views(), system.regions(), system.flats(), ~system, system.turned_at(()),
                            system.left_out(()), system.shrunk(()), system.renamed(tuple(range(system.many))),
                            system + System.free(0), system.alike, system.loops, system.pillars] for _ in range(2)]
                self.assertEqual(results[0], results[1])
                self.assertEqual(results[0][4:9], [system] * 5)
            after = (system.many, system.rank, system.signs, system.bases, system.rounds.rows, system.cuts.rows)
            self.assertEqual(before, after)
        for name in ("many", "rank", "rounds", "cuts", "signs", "bases", "loops", "pillars", "alike", "is_simple", "is_open",
                     "is_general"):
            with self.assertRaises(AttributeError):
                setattr(LINE, name, 1)


class WrongArguments(unittest.TestCase):
    def test_making(self):
        for call in (System, System.of_cuts):
            Wrong(call, (Lot(3),), ((InvalidLot, is_lot),)).check(self)
        Wrong(System.of_table, (Table(2, ()),), ((InvalidTable, lambda value: isinstance(value, Table)),)).check(self)
        Wrong(System.free, (3,), ((InvalidNumber, lambda value: is_between(value, 0, 9)),)).check(self)

    def test_things(self):
        for system in (LINE, System.free(2), System.free(0)):
            for call in (system.rank_of, system.flat_of, system.turned_at, system.left_out, system.shrunk):
                Wrong(call, ((),), ((InvalidOperation, lambda value: is_things(value, system.many)),)).check(self)

    def test_orders(self):
        def is_sign_order(value):
            return isinstance(value, tuple) and len(value) == 2 and all(is_between(one, 0, 3) for one in value)

        def is_renaming(value):
            return isinstance(value, tuple) and all(is_between(one, 0, 1) for one in value) and sorted(value) == [0, 1]

        Wrong(LINE.sign, ((0, 1),), ((InvalidOrder, is_sign_order),)).check(self)
        Wrong(System.free(2).renamed, ((1, 0),), ((InvalidOrder, is_renaming),)).check(self)
        for order in ((0, 1), (0, 1, 2, 3, 3), (0, 1, 2, 4), (3, 2, 1, False), [3, 2, 1, 0], "3210", (3, 2, 2, 0)):
            self.assertEqual(error_of(lambda: LINE.renamed(order)).__class__, InvalidOrder)

    def test_bases(self):
        for system in (LINE, MIXED):
            base = system.bases[0]
            Wrong(system.cut_of, (base, base[0]), ((InvalidOperation, is_base_of(system)), (
                InvalidNumber, lambda value: is_between(value, 0, 3) and value in base))).check(self)
        Wrong(LINE.round_of, ((0, 1), 2), ((InvalidOperation, is_base_of(LINE)), (
            InvalidNumber, lambda value: is_between(value, 2, 3)))).check(self)
        for base in ((1, 2), (0, 3), (1,), (1, 3, 2), (3, 1)):
            self.assertEqual(error_of(lambda: MIXED.cut_of(base, base[0])).__class__, InvalidOperation)


if __name__ == "__main__":
    unittest.main()
