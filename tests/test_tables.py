"""Tables: [2.1] to [2.5], determinant and class Table."""

import unittest
from fractions import Fraction
from itertools import combinations, permutations, product
from math import gcd, prod

from sidesigns.errors import InvalidLot, InvalidNumber, InvalidOperation, InvalidRow, InvalidTable, Refused
from sidesigns.rows.rows import Lot
from sidesigns.table import tables as module
from sidesigns.table.tables import Table, determinant
from support import (POOL, Wrong, curve, error_of, has, is_between, is_plain, is_row, least_rows, opposite, rows_of,
                     signs_of, small_tables, told_by)

HUGE = 10 ** 60 - 1


def plain_determinant(rows):
    total = 0
    for order in permutations(range(len(rows))):
        turns = sum(1 for one, other in combinations(order, 2) if one > other)
        total += (-1) ** turns * prod(rows[at][place] for at, place in enumerate(order))
    return total


def cleared(rows, line):
    """The line with multiples of echelon rows taken away."""
    line = [Fraction(value) for value in line]
    for place, row in rows:
        if line[place] != 0:
            factor = line[place] / row[place]
            line = [mine - factor * theirs for mine, theirs in zip(line, row)]
    return line


def firsts_of(lines):
    """The indices of the lines that are no sums of multiples of those ahead."""
    rows, found = [], []
    for at, line in enumerate(lines):
        rest = cleared(rows, line)
        places = [place for place, value in enumerate(rest) if value != 0]
        if places:
            rows.append((places[0], rest))
            found.append(at)
    return found


def columns_of(table):
    return [tuple(row[thing] for row in table.rows) for thing in range(table.many)]


def common_divisor(values):
    common = 0
    for value in values:
        common = gcd(common, value)
    return common


def base_signs(table):
    rows = [table.rows[at] for at in firsts_of(table.rows)]
    signs = signs_of(plain_determinant([[row[thing] for thing in lot] for row in rows])
                     for lot in combinations(range(table.many), len(rows)))
    return opposite(signs) if signs.lstrip("0").startswith("-") else signs


def sums_of(table, size):
    """The signs of all whole sums with factors up to a size."""
    found = set()
    for factors in product(range(-size, size + 1), repeat=table.many):
        if any(factors) and all(sum(a * b for a, b in zip(factors, row)) == 0 for row in table.rows):
            found.add(signs_of(factors))
    return found


def weighted_signs(table, size):
    found = set()
    for weights in product(range(-size, size + 1), repeat=len(table.rows)):
        found.add(signs_of(sum(w * row[thing] for w, row in zip(weights, table.rows)) for thing in range(table.many)))
    return found


SMALL = (small_tables(3, 1, -2, 2) + small_tables(2, 2, -1, 2) + small_tables(3, 2, -1, 1) + small_tables(1, 2, -1, 1)
         + small_tables(2, 3, -1, 1) + small_tables(4, 1, -1, 1))
LARGER = [curve(many, rank) for many in range(10) for rank in range(many + 1)] + [
    Table(5, ((1, 1, 1, 1, 1), (0, 2, 2, 0, 1), (0, 0, 2, 2, 1))),
    Table(9, ((1, 0, 0, 2, 0, -1, 0, 0, 3), (0, 1, 0, 0, 0, 2, -2, 0, 3), (0, 0, 1, 0, 0, 5, 5, 0, 3))),
    Table(6, ((2, 4, 6, 0, 0, 8), (1, 2, 3, 0, 0, 4), (0, 1, 1, 0, 3, 0), (3, 7, 10, 0, 3, 12), (0, 0, 0, 0, 0, 1))),
    Table(9, tuple(tuple((at * at * 7 + place * 5 + at * place * place) % 11 - 5 for place in range(9)) for at in range(9))),
    Table(7, tuple(tuple((at * 3 + place * place * 5 + at * place) % 7 - 3 for place in range(7)) for at in range(4))),
]
EDGES = ([Table(many, rows) for many in range(10) for rows in ((), ((0,) * many,), ((0,) * many, (0,) * many))]
         + [Table(many, tuple(tuple(int(at == place) for place in range(many)) for at in range(many)))
            for many in range(10)])
ALL = SMALL + LARGER + EDGES


class DeterminantTest(unittest.TestCase):
    def test_small(self):
        for size, least, most in ((0, 0, 0), (1, -5, 5), (2, -2, 3), (3, -1, 1)):
            for values in product(range(least, most + 1), repeat=size * size):
                rows = tuple(values[at * size:(at + 1) * size] for at in range(size))
                self.assertEqual(determinant(rows), plain_determinant(rows))

    def test_larger(self):
        for size in range(4, 8):
            for seed in range(8):
                rows = tuple(tuple((at * 7 + place * place * seed + at * place * 3 + seed) % 19 - 9
                                   for place in range(size)) for at in range(size))
                self.assertEqual(determinant(rows), plain_determinant(rows))

    def test_nine(self):
        for size in (8, 9):
            powers = tuple(tuple((place + 2) ** at for place in range(size)) for at in range(size))
            expected = prod(other - one for one, other in combinations(range(size), 2))
            self.assertEqual(determinant(powers), expected)
            self.assertEqual(determinant(powers[1:] + powers[:1]), expected * (-1) ** (size - 1))
            self.assertEqual(determinant(powers[:-1] + powers[:1]), 0)

    def test_long_integers(self):
        self.assertEqual(determinant(((HUGE,),)), HUGE)
        self.assertEqual(determinant(((-HUGE, 1), (1, HUGE))), -HUGE * HUGE - 1)
        rows = tuple(tuple(HUGE if at == place else 0 for place in range(9)) for at in range(9))
        self.assertEqual(determinant(rows), HUGE ** 9)
        near = tuple(tuple(HUGE - at * place * place - at for place in range(3)) for at in range(3))
        self.assertEqual(determinant(near), plain_determinant(near))

    def test_wrong(self):
        def is_square(value):
            return isinstance(value, tuple) and len(value) <= 9 and all(
                isinstance(row, tuple) and len(row) == len(value) and all(is_plain(one) for one in row) for row in value)

        Wrong(determinant, (((1, 2), (3, 4)),), ((InvalidTable, is_square),)).check(self)
        tall = tuple((0,) * 10 for _ in range(10))
        for value in (((1, 2),), ((1,), (2,)), ((1, 2), (3,)), ((1, 2), (3, True)), ((10 ** 60,),), ((-10 ** 60,),),
                      ((1, 2), (3, 10 ** 60)), tall, ((),), [[1]], ([1],), [(1,)]):
            self.assertEqual(error_of(lambda: determinant(value)).__class__, InvalidTable, value)


class TellingTest(unittest.TestCase):
    """What a table tells, against the plain words of [2.1] to [2.4]."""

    def test_constant(self):
        self.assertEqual(module.MAX_ROWS, 9)

    def test_rank_and_signs(self):
        for table in ALL:
            if table.many < 9 or len(table.rows) < 7:
                self.assertEqual(table.rank, len(firsts_of(table.rows)))
                self.assertEqual(table.signs, base_signs(table))

    def test_rank_of_many_rows(self):
        for table in LARGER + EDGES:
            self.assertEqual(table.rank, len(firsts_of(table.rows)))
            self.assertEqual(table.rank, len(firsts_of(columns_of(table))))

    def test_rounds(self):
        for table in SMALL:
            sums = sums_of(table, 2)
            self.assertEqual(list(table.rounds), least_rows(sums), table.rows)
            self.assertEqual(table.rounds.many, table.many)

    def test_cuts(self):
        for table in SMALL:
            self.assertEqual(list(table.cuts), least_rows(weighted_signs(table, 2)), table.rows)
            self.assertEqual(table.cuts.many, table.many)

    def test_views_are_layings(self):
        for table in SMALL[::3]:
            self.assertEqual(list(table.cuts.layings()), sorted(weighted_signs(table, 4)))
            if table.many == 3:
                zero = {"0" * table.many}
                self.assertEqual(list(table.rounds.layings()), sorted(sums_of(table, 4) | zero))

    def test_rounds_and_cuts_are_upright(self):
        for table in ALL:
            if table.many <= 7:
                views = table.cuts.layings()
                self.assertEqual(table.rounds.uprights(), views)
                self.assertEqual(table.cuts.uprights(), table.rounds.layings())

    def test_curves(self):
        for many in range(10):
            for rank in range(many + 1):
                table = curve(many, rank)
                self.assertEqual((table.rank, set(table.signs)), (rank, {"+"}))
                rows = set()
                for things in combinations(range(many), rank + 1):
                    for first in range(2):
                        rows.add("".join("+-"[(things.index(at) + first) % 2] if at in things else "0"
                                         for at in range(many)))
                self.assertEqual(set(table.rounds), rows)

    def test_signs_are_turned_all_or_none(self):
        self.assertEqual(Table(3, ((0, -1, 1),)).signs, "0+-")
        self.assertEqual(Table(3, ((0, 1, -1),)).signs, "0+-")
        self.assertEqual(Table(2, ((0, 1), (1, 0))).signs, "+")

    def test_base_signs_of_rows_that_depend(self):
        rows = ((1, 2, 3, 4), (2, 4, 6, 8), (0, 1, 0, -1), (1, 3, 3, 3), (0, 0, 0, 5))
        table = Table(4, rows)
        self.assertEqual(table.rank, 3)
        for order in permutations(rows):
            other = Table(4, order)
            self.assertEqual((other.rank, other.signs), (table.rank, table.signs))

    def test_edges(self):
        for many in range(10):
            for rows in ((), ((0,) * many,), ((0,) * many,) * 9):
                table = Table(many, rows)
                self.assertEqual((table.rank, table.signs, len(table.cuts)), (0, "+", 0))
                self.assertEqual(set(table.rounds), {"0" * at + one + "0" * (many - at - 1)
                                                     for at in range(many) for one in "+-"})
        for table in EDGES[-10:]:
            self.assertEqual((table.rank, table.signs, len(table.rounds)), (table.many, "+", 0))
            self.assertEqual(len(table.cuts), 2 * table.many)
        for rows in ((), ((),), ((),) * 9):
            table = Table(0, rows)
            self.assertEqual((table.rank, table.signs, len(table.rounds), len(table.cuts)), (0, "+", 0, 0))


class ChangedTables(unittest.TestCase):
    """[2.5]: what stays if rows and columns are changed."""

    def assert_same(self, table, rows):
        other = Table(table.many, tuple(rows))
        self.assertEqual((other.rank, other.signs, other.rounds, other.cuts),
                         (table.rank, table.signs, table.rounds, table.cuts))
        self.assertTrue(table.is_alike(other))

    def test_rows(self):
        for table in small_tables(3, 2, -1, 1) + LARGER[-4:]:
            one, other, *rest = table.rows
            for factor in (-3, 2, HUGE // 10 ** 30):
                self.assert_same(table, (tuple(factor * value for value in one), other, *rest))
                self.assert_same(table, (one, tuple(a + factor * b for a, b in zip(other, one)), *rest))
            self.assert_same(table, (other, one, *rest))

    def test_rows_that_depend_are_left_out(self):
        for table in ALL:
            firsts = firsts_of(table.rows)
            self.assert_same(table, [table.rows[at] for at in firsts])
            for left in range(len(table.rows)):
                if left not in firsts:
                    self.assert_same(table, table.rows[:left] + table.rows[left + 1:])

    def test_columns(self):
        for table in SMALL[::5] + LARGER[-4:]:
            for thing in range(table.many):
                for factor in (5, -1, -7):
                    rows = tuple(row[:thing] + (row[thing] * factor,) + row[thing + 1:] for row in table.rows)
                    if factor > 0:
                        self.assert_same(table, rows)
                    else:
                        other = Table(table.many, rows)
                        self.assertEqual(other.rounds, table.rounds.turned_at((thing,)))
                        self.assertEqual(other.cuts, table.cuts.turned_at((thing,)))

    def test_loops_and_alike_things(self):
        for table in ALL:
            for thing, column in enumerate(columns_of(table)):
                row = "0" * thing + "+" + "0" * (table.many - thing - 1)
                self.assertEqual(row in table.rounds, not any(column))
        table = Table(4, ((1, -2, 0, 0), (3, -6, 0, 1)))
        self.assertEqual(list(table.rounds), ["++00", "--00", "00+0", "00-0"])


class SumsTest(unittest.TestCase):
    def test_seen(self):
        for table in SMALL[::7]:
            for weights in product((-2, -1, 0, 1, 3), repeat=len(table.rows)):
                expected = signs_of(sum(w * row[thing] for w, row in zip(weights, table.rows))
                                    for thing in range(table.many))
                self.assertEqual(table.seen(weights), expected)
        self.assertEqual(Table(3, ()).seen(()), "000")
        self.assertEqual(Table(0, ((), ())).seen((4, 5)), "")
        self.assertEqual(Table(2, ((HUGE, 1), (1, -HUGE))).seen((-1, HUGE)), "0-")

    def check_round_sums(self, table, rows):
        for row in rows:
            if row not in table.rounds:
                self.assertEqual(told_by(error_of(lambda: table.round_sum(row))), (Refused, ("row",)))
                continue
            values = table.round_sum(row)
            self.assertIsInstance(values, tuple)
            self.assertEqual((signs_of(values), common_divisor(values)), (row, 1))
            for line in table.rows:
                self.assertEqual(sum(a * b for a, b in zip(values, line)), 0)

    def check_cut_weights(self, table, rows):
        firsts = firsts_of(table.rows)
        for row in rows:
            if row not in table.cuts:
                self.assertEqual(told_by(error_of(lambda: table.cut_weights(row))), (Refused, ("row",)))
                continue
            weights = table.cut_weights(row)
            self.assertIsInstance(weights, tuple)
            self.assertEqual((len(weights), common_divisor(weights)), (len(table.rows), 1))
            self.assertTrue(all(weights[at] == 0 for at in range(len(weights)) if at not in firsts))
            self.assertEqual(signs_of(sum(w * line[thing] for w, line in zip(weights, table.rows))
                                      for thing in range(table.many)), row)

    def test_small_tables_and_all_rows(self):
        for table in SMALL + EDGES[:12]:
            self.check_round_sums(table, rows_of(table.many))
            self.check_cut_weights(table, rows_of(table.many))

    def test_larger_tables(self):
        for table in LARGER + EDGES:
            self.check_round_sums(table, table.rounds)
            self.check_cut_weights(table, table.cuts)

    def test_sixty_digits(self):
        rows = tuple(tuple((HUGE // (at + place * place + 2)) * (-1) ** (at * place) - place for place in range(6))
                     for at in range(4))
        table = Table(6, rows)
        self.assertEqual(table.signs, base_signs(table))
        self.check_round_sums(table, table.rounds)
        self.check_cut_weights(table, table.cuts)
        line = Table(2, ((HUGE, HUGE - 1),))
        self.assertEqual(line.round_sum("-+"), (1 - HUGE, HUGE))
        self.assertEqual(line.cut_weights("--"), (-1,))
        self.assertEqual(Table(2, ((HUGE, -HUGE),)).round_sum("++"), (1, 1))

    def test_near_integers(self):
        table = Table(2, ((HUGE, HUGE - 1), (HUGE - 1, HUGE - 2)))
        self.assertEqual((table.rank, table.signs), (2, "+"))
        self.assertEqual(table.cut_weights("+0"), (2 - HUGE, HUGE - 1))


class UprightTableTest(unittest.TestCase):
    def test_rows(self):
        for table in ALL:
            firsts = firsts_of(columns_of(table))
            expected = []
            for thing in range(table.many):
                if thing not in firsts:
                    row = [row for row in table.rounds if row[thing] == "+" and has(row) <= {thing, *firsts}]
                    self.assertEqual(len(row), 1)
                    expected.append(table.round_sum(row[0]))
            self.assertEqual(table.upright_table().rows, tuple(expected))

    def test_rounds_and_cuts(self):
        for table in ALL:
            other = table.upright_table()
            self.assertEqual((other.many, other.rank), (table.many, table.many - table.rank))
            self.assertEqual((other.rounds, other.cuts), (table.cuts, table.rounds))
            self.assertEqual(other.__class__, Table)

    def test_long_integers(self):
        rows = tuple(tuple(HUGE // (at + place + 1) - place ** at for place in range(7)) for at in range(4))
        table = Table(7, rows)
        other = table.upright_table()
        self.assertTrue(any(abs(value) >= 10 ** 60 for row in other for value in row))
        back = other.upright_table()
        self.assertEqual((other.rounds, other.cuts), (table.cuts, table.rounds))
        self.assertTrue(back.is_alike(table))
        self.assertTrue(table.is_alike(back))
        self.assertFalse(table.is_alike(other))
        self.assertEqual(other.seen((1, 0, 0)), signs_of(other[0]))
        SumsTest().check_round_sums(other, other.rounds)
        SumsTest().check_cut_weights(other, other.cuts)
        self.assertEqual(other, other)
        self.assertEqual(error_of(lambda: Table(7, other.rows)).__class__, InvalidTable)


class TableObjectTest(unittest.TestCase):
    def test_properties(self):
        rows = ((1, 2, 3), (0, 0, 1))
        table = Table(3, rows)
        self.assertEqual((table.many, table.rows, len(table), list(table)), (3, rows, 2, list(rows)))
        self.assertEqual((table[0], table[1]), rows)
        self.assertEqual(str(table), "table of 2 rows, 3 things")
        self.assertEqual(str(Table(0, ())), "table of 0 rows, 0 things")
        self.assertIsInstance(table.rounds, Lot)
        self.assertIsInstance(table.cuts, Lot)

    def test_properties_cannot_be_set(self):
        table = Table(3, ((1, 2, 3),))
        for name in ("many", "rows", "rank", "signs", "rounds", "cuts"):
            with self.assertRaises(AttributeError):
                setattr(table, name, 1)

    def test_equality(self):
        tables = small_tables(2, 1, -1, 1) + small_tables(1, 2, -1, 1) + EDGES[:9]
        for one, other in product(tables, repeat=2):
            same = one.many == other.many and one.rows == other.rows
            self.assertIs(one == other, same)
            self.assertIs(one != other, not same)

    def test_equality_accepts_every_value(self):
        table = Table(3, ((1, 2, 3),))
        for value in POOL:
            same = isinstance(value, Table) and value.rows == ((1, 2, 3),)
            self.assertIs(table == value, same)
            self.assertIs(table != value, not same)
            self.assertIs(value == table, same)
            self.assertIs(value in table, value == (1, 2, 3))

    def test_equal_tables_are_not_just_alike(self):
        one, other = Table(2, ((1, 2),)), Table(2, ((2, 4),))
        self.assertTrue(one != other and one.is_alike(other) and other.is_alike(one))

    def test_is_alike(self):
        tables = small_tables(2, 1, -1, 1) + small_tables(2, 2, 0, 1) + small_tables(1, 1, -1, 1) + EDGES[:9]
        for one, other in product(tables, repeat=2):
            same = one.many == other.many and one.rounds == other.rounds
            self.assertIs(one.is_alike(other), same)
            if same:
                self.assertEqual((one.rank, one.signs), (other.rank, other.signs))
        self.assertIs(Table(2, ((0, 1), (1, 0))).is_alike(Table(3, ())), False)

    def test_index(self):
        table = Table(1, ((5,), (6,), (7,)))
        for value in POOL + (3, -1, slice(0, 1)):
            if is_between(value, 0, 2):
                self.assertEqual(table[value], (5 + value,))
            else:
                error = error_of(lambda: table[value])
                self.assertEqual(told_by(error), (InvalidNumber, value))
                self.assertIs(error.value, value)
        self.assertEqual(told_by(error_of(lambda: Table(1, ())[0])), (InvalidNumber, 0))

    def test_operators(self):
        table = Table(1, ((5,),))
        for call in (lambda: table + table, lambda: table | Lot(1), lambda: table < table, lambda: ~table,
                     lambda: Lot(1) | table, lambda: table * 2):
            self.assertEqual(error_of(call).__class__, TypeError)

    def test_nothing_changes(self):
        for table in LARGER[-4:]:
            before = (table.many, table.rows, table.rank, table.signs, table.rounds, table.cuts)
            results = [[table.upright_table(), [table.round_sum(row) for row in table.rounds],
                        [table.cut_weights(row) for row in table.cuts], table.seen((1,) * len(table))]
                       for _ in range(2)]
            self.assertEqual(results[0], results[1])
            self.assertEqual((table.many, table.rows, table.rank, table.signs, table.rounds, table.cuts), before)
            self.assertEqual(Table(table.many, table.rows), table)


class WrongArguments(unittest.TestCase):
    def test_making_a_table(self):
        def is_table_of_three(value):
            return isinstance(value, tuple) and all(
                isinstance(row, tuple) and len(row) == 3 and all(is_plain(one) for one in row) for row in value)

        Wrong(Table, (3, ((1, 2, 3),)), (
            (InvalidNumber, lambda value: is_between(value, 0, 9)), (InvalidTable, is_table_of_three))).check(self)

    def test_rows(self):
        for rows in (((0,),) * 10, ((1,), (1, 2)), ((1,), ()), ((True,),), ((None,),), (("1",),), ([1],), [(1,)],
                     ((10 ** 60,),), ((-10 ** 60,),), ((1,), (2,), (10 ** 60,)), None, "1", 1, (1,)):
            self.assertEqual(error_of(lambda: Table(1, rows)).__class__, InvalidTable, rows)
        self.assertEqual(len(Table(1, ((HUGE,), (-HUGE,)) + ((0,),) * 7)), 9)
        self.assertEqual(len(Table(0, ((),) * 9)), 9)
        self.assertEqual(error_of(lambda: Table(0, ((),) * 10)).__class__, InvalidTable)

    def test_seen(self):
        table = Table(3, ((1, 2, 3), (4, 5, 6)))

        def are_weights(value):
            return isinstance(value, tuple) and len(value) == 2 and all(
                is_plain(one) and abs(one) < 10 ** 60 for one in value)

        Wrong(table.seen, ((1, 2),), ((InvalidOperation, are_weights),)).check(self)
        for weights in ((1, 10 ** 60), (-10 ** 60, 1), (1,), (1, 2, 3), (1, True), [1, 2]):
            self.assertEqual(error_of(lambda: table.seen(weights)).__class__, InvalidOperation)

    def test_rows_of_signs(self):
        table = Table(3, ((1, 2, 3),))

        def is_row_of_three(value):
            return is_row(value, 3)

        Wrong(table.round_sum, ("+-0",), ((InvalidRow, is_row_of_three),)).check(self)
        Wrong(table.cut_weights, ("+++",), ((InvalidRow, is_row_of_three),)).check(self)
        for row in ("000", "+0-", "+++"):
            expected = (type(None), None) if row in table.rounds else (Refused, ("row",))
            self.assertEqual(told_by(error_of(lambda: table.round_sum(row))), expected)

    def test_is_alike(self):
        table = Table(3, ((1, 2, 3),))
        Wrong(table.is_alike, (table,), ((InvalidTable, lambda value: isinstance(value, Table)),)).check(self)

    def test_lots_are_no_tables(self):
        self.assertEqual(error_of(lambda: Table(3, Lot(3))).__class__, InvalidTable)
        self.assertEqual(error_of(lambda: Lot(3, Table(3, ()))).__class__, InvalidLot)


if __name__ == "__main__":
    unittest.main()
