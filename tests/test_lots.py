"""Lots of rows: class Lot and [1.2]."""

import unittest
from itertools import combinations, product
from time import perf_counter

from sidesigns.errors import InvalidLot, InvalidNumber, InvalidOperation, TooMany
from sidesigns.rows.rows import Lot
from sidesigns.table.tables import Table
from support import (POOL, Wrong, all_layings, error_of, has, is_between, is_row, is_things, least_rows, lots_of_rows,
                     opposite, over, rows_of, told_by, uprights_to)

# All lots of rows of at most two signs, and all lots of at most three rows of three.
SMALL = [lot for many in range(3) for lot in lots_of_rows(many, range(3 ** many + 1))] + lots_of_rows(3, range(4))
TINY = [lot for many in range(3) for lot in lots_of_rows(many, range(3 ** many + 1)[:4])]


def some_lots(many, size, count):
    """Lots of so many rows that a plain rule picks."""
    rows = rows_of(many)
    return [Lot(many, tuple(rows[(step * step * 7 + at * (2 * step + 3)) % len(rows)] for at in range(size)))
            for step in range(count)]


class LotTest(unittest.TestCase):
    def test_rows_in_any_order_and_more_than_once(self):
        for lot in some_lots(3, 6, 40):
            for told in (lot.rows[::-1], lot.rows + lot.rows, lot.rows[2:] + lot.rows[:2] + lot.rows[1:]):
                self.assertEqual(Lot(3, told).rows, lot.rows)
                self.assertEqual(Lot(3, told), lot)

    def test_properties(self):
        for lot in SMALL:
            self.assertEqual(lot.rows, tuple(sorted(set(lot.rows))))
            self.assertIs(lot.is_even, all(opposite(row) in lot.rows for row in lot.rows))
            self.assertEqual(len(lot), len(lot.rows))
            self.assertEqual(list(lot), list(lot.rows))
            self.assertEqual(list(lot), list(lot))
            self.assertEqual(str(lot), f"{len(lot.rows)} rows of {lot.many} signs")

    def test_known_rows(self):
        for size in range(4):
            for rows in combinations(rows_of(2), size):
                lot = Lot(2, rows)
                self.assertEqual((lot.many, lot.rows), (2, rows))

    def test_without_rows_and_without_signs(self):
        for many in range(10):
            lot = Lot(many)
            self.assertEqual((lot.many, lot.rows, len(lot), lot.is_even), (many, (), 0, True))
            self.assertEqual(lot, Lot(many, ()))
        lot = Lot(0, ("", ""))
        self.assertEqual((lot.rows, len(lot), lot.is_even, "" in lot), (("",), 1, True, True))
        self.assertEqual((lot.least().rows, lot.layings().rows, lot.uprights().rows), ((), ("",), ("",)))

    def test_all_rows_of_nine_signs(self):
        lot = Lot(9, tuple(rows_of(9)[::-1]))
        self.assertEqual((len(lot), lot.rows[0], lot.rows[-1], lot.is_even), (19683, "+" * 9, "0" * 9, True))
        self.assertEqual([row for row in lot.least() if row.startswith("+")], ["+00000000"])
        self.assertEqual(len(lot.least()), 18)

    def test_in_accepts_every_value(self):
        lot = Lot(3, ("+-0", "0+-"))
        for value in POOL:
            self.assertIs(value in lot, isinstance(value, str) and value in ("+-0", "0+-"))

    def test_equality(self):
        for one, other in product(TINY, repeat=2):
            same = one.many == other.many and one.rows == other.rows
            self.assertIs(one == other, same)
            self.assertIs(one != other, not same)

    def test_equality_accepts_every_value(self):
        lot = Lot(3, ("+-0", "-+0"))
        for value in POOL:
            same = isinstance(value, Lot) and value.rows == lot.rows and value.many == 3
            self.assertIs(lot == value, same)
            self.assertIs(lot != value, not same)
            self.assertIs(value == lot, same)
            self.assertIs(value != lot, not same)

    def test_joined(self):
        for one, other in product([lot for lot in SMALL if lot.many == 2][::5], repeat=2):
            rows, others = set(one.rows), set(other.rows)
            self.assertEqual((one | other).rows, tuple(sorted(rows | others)))
            self.assertEqual((one & other).rows, tuple(sorted(rows & others)))
            self.assertEqual((one - other).rows, tuple(sorted(rows - others)))
            self.assertEqual((one | other).many, 2)
            self.assertEqual((one & other).many, 2)
            self.assertEqual((one - other).many, 2)

    def test_least(self):
        for lot in SMALL + some_lots(4, 12, 30) + some_lots(9, 20, 10):
            self.assertEqual(lot.least().rows, tuple(least_rows(lot.rows)))
            self.assertEqual(lot.least().many, lot.many)

    def test_least_keeps_rows_with_the_same_things(self):
        lot = Lot(3, ("++0", "+-0", "++-", "000"))
        self.assertEqual(lot.least().rows, ("++0", "+-0"))

    def test_with_turned(self):
        for lot in SMALL:
            more = lot.with_turned()
            self.assertEqual(set(more), set(lot) | {opposite(row) for row in lot})
            self.assertTrue(more.is_even)
            self.assertEqual(lot.is_even, more == lot)

    def test_turned_at(self):
        for lot in SMALL:
            for size in range(lot.many + 1):
                for things in combinations(range(lot.many), size):
                    turned = {"".join(opposite(sign) if at in things else sign for at, sign in enumerate(row))
                              for row in lot}
                    self.assertEqual(lot.turned_at(things).rows, tuple(sorted(turned)))

    def test_objects_do_not_change(self):
        for lot in SMALL[::9]:
            before = (lot.many, lot.rows)
            other = Lot(lot.many, lot.rows[:1])
            for _ in range(2):
                results = [lot.least(), lot.with_turned(), lot.turned_at(()), lot.layings(), lot.uprights(), lot | other,
                           lot & other, lot - other]
                again = [lot.least(), lot.with_turned(), lot.turned_at(()), lot.layings(), lot.uprights(), lot | other,
                         lot & other, lot - other]
                self.assertEqual(results, again)
                self.assertEqual((lot.many, lot.rows), before)

    def test_rows_cannot_be_changed(self):
        lot = Lot(2, ("+0", "-0"))
        for name in ("many", "rows", "is_even"):
            with self.assertRaises(AttributeError):
                setattr(lot, name, 1)
        self.assertEqual((lot.many, lot.rows), (2, ("+0", "-0")))


class LayingsTest(unittest.TestCase):
    def test_small(self):
        for lot in SMALL + some_lots(4, 4, 20):
            self.assertEqual(list(lot.layings()), all_layings(lot.rows, lot.many))
            self.assertEqual(lot.layings().many, lot.many)

    def test_of_long_rows(self):
        for lot in some_lots(9, 4, 6):
            self.assertEqual(list(lot.layings()), all_layings(lot.rows, 9))

    def test_again(self):
        for lot in SMALL + some_lots(5, 5, 20) + some_lots(7, 4, 5):
            layings = lot.layings()
            self.assertEqual(layings.layings(), layings)

    def test_within_the_limit(self):
        for many in (8, 9):
            lot = Lot(many, tuple(row + "0" * (many - 8) for row in singles(8)))
            self.assertEqual(len(lot.layings()), 3 ** 8)
        self.assertEqual(len(Lot(8, tuple(rows_of(8))).layings()), 3 ** 8)

    def test_all_rows_of_eight_signs(self):
        """All rows come of those that have one thing, and there are fewer than the limit."""
        layings = Lot(8, singles(8)).layings()
        self.assertEqual(len(layings), 6561)
        self.assertEqual(list(layings), rows_of(8))

    def test_too_many_of_nine_signs(self):
        self.assertEqual(told_by(error_of(Lot(9, singles(9)).layings)), (TooMany, 7000))

    def test_rows_are_ascending_and_each_once(self):
        """The rows of lots and of their layings, whatever the order of the rows."""
        for lot in SMALL + some_lots(5, 6, 20) + some_lots(9, 4, 5) + [Lot(8, singles(8)), Lot(7), Lot(7).uprights()]:
            for one in (lot, lot.layings(), Lot(lot.many, lot.rows[::-1] + lot.rows).layings()):
                self.assertEqual(list(one), sorted(set(one)))
                self.assertEqual(list(one.rows), list(one))
            self.assertEqual(lot.layings().rows, Lot(lot.many, lot.rows[::-1]).layings().rows)

    def test_time(self):
        """A hundred calls in less than a second; the least time of some, as others may have the machine."""
        lots = [Lot(8, singles(8)), Lot(9, singles(9))]
        for call in (lots[0].layings, lambda: error_of(lots[1].layings), Lot(7).uprights):
            self.assertLess(least_time(call, 30), 0.01)

    def test_beyond_the_limit(self):
        rows = tuple(rows_of(9))
        for lot in (Lot(9, singles(9)), Lot(9, rows), Lot(9, rows[:7001]), Lot(9, rows[:7000])):
            self.assertEqual(told_by(error_of(lot.layings)), (TooMany, 7000))

    def test_just_at_the_limit(self):
        rows = rows_with_6999_layings()
        self.assertEqual(len(rows), 6999)
        lot = Lot(9, tuple(rows))
        self.assertEqual(lot.layings(), lot | Lot(9, ("0" * 9,)))
        self.assertEqual(Lot(9, ("0" * 9, *rows)).layings(), lot | Lot(9, ("0" * 9,)))
        more = Lot(9, (*rows, "-" * 9))
        self.assertEqual(told_by(error_of(more.layings)), (TooMany, 7000))


def singles(many):
    """The rows that have just one thing."""
    return tuple("0" * at + sign + "0" * (many - at - 1) for at in range(many) for sign in "+-")


def least_time(call, times):
    found = []
    for _ in range(times):
        start = perf_counter()
        call()
        found.append(perf_counter() - start)
    return min(found)


def rows_with_6999_layings():
    """Rows of which each one, laid over any of them, is one of them."""
    cones = ("++", "+-", "-+", "--++00000", "--+-+0000", "--+--0000", "---+++000", "---+-++-0", "---+-+++0")
    signs = [cone.rstrip("0") for cone in cones]
    return [row for row in rows_of(9) if any(row.startswith(first) for first in signs)]


class UprightsTest(unittest.TestCase):
    def test_small(self):
        for lot in SMALL + some_lots(4, 3, 20) + some_lots(5, 2, 10) + some_lots(7, 3, 3):
            self.assertEqual(list(lot.uprights()), uprights_to(lot.rows, lot.many))
            self.assertEqual(lot.uprights().many, lot.many)

    def test_of_no_rows(self):
        for many in range(8):
            self.assertEqual(list(Lot(many).uprights()), rows_of(many))
            self.assertEqual(list(Lot(many, tuple(rows_of(many))).uprights()), ["0" * many])

    def test_seven_and_eight_signs(self):
        self.assertEqual(len(Lot(7, ("+000000",)).uprights()), 3 ** 6)
        for many in (8, 9):
            for rows in ((), ("+" * many,)):
                self.assertEqual(told_by(error_of(Lot(many, rows).uprights)), (TooMany, 7))

    def test_statement(self):
        """[1.2], over all small lots."""
        for lot in SMALL + some_lots(5, 4, 10) + some_lots(7, 3, 3):
            uprights = lot.uprights()
            self.assertEqual(uprights, uprights.uprights().uprights())
            self.assertEqual(lot.layings().uprights(), uprights)
            self.assertEqual(uprights & Lot(lot.many, tuple(uprights_to(lot.rows, lot.many))), uprights)


class WrongArguments(unittest.TestCase):
    def test_making_a_lot(self):
        def is_many(value):
            return is_between(value, 0, 9)

        def are_rows(value):
            return isinstance(value, tuple) and all(is_row(row, 3) for row in value)

        Wrong(Lot, (3, ("+-0",)), ((InvalidNumber, is_many), (InvalidLot, are_rows))).check(self)
        Wrong(Lot, (3,), ((InvalidNumber, is_many),)).check(self)

    def test_rows_of_another_length(self):
        for many in range(10):
            for length in range(11):
                if length != many:
                    self.assertEqual(error_of(lambda: Lot(many, ("+" * length,))).__class__, InvalidLot)

    def test_the_last_row_is_looked_at(self):
        for row in ("+-", "+-00", "+x0", None, 5):
            self.assertEqual(error_of(lambda: Lot(3, ("+-0", "000", row))).__class__, InvalidLot)

    def test_turned_at(self):
        for lot in (Lot(3), Lot(3, ("+-0",))):
            Wrong(lot.turned_at, ((0, 2),), ((InvalidOperation, lambda value: is_things(value, 3)),)).check(self)

    def test_lots_of_unlike_rows(self):
        for one, other in product(range(4), repeat=2):
            lot, second = Lot(one, ("+" * one,)), Lot(other, ("+" * other,))
            for call in (lambda: lot | second, lambda: lot & second, lambda: lot - second):
                self.assertEqual(error_of(call).__class__, type(None) if one == other else InvalidLot)

    def test_operands_of_another_kind(self):
        lot = Lot(3, ("+-0",))
        for value in (None, True, 3, "+-0", ("+-0",), ["+-0"], {"+-0": True}, Table(3, ())):
            for call in (lambda: lot | value, lambda: lot & value, lambda: lot - value, lambda: value | lot,
                         lambda: value & lot, lambda: value - lot):
                self.assertEqual(error_of(call).__class__, TypeError, value)

    def test_other_operators(self):
        lot = Lot(3, ("+-0",))
        for call in (lambda: lot < lot, lambda: lot >= 3, lambda: lot + lot, lambda: lot ^ lot, lambda: ~lot,
                     lambda: lot[0], lambda: lot * 2):
            self.assertEqual(error_of(call).__class__, TypeError)


class MadeOfResults(unittest.TestCase):
    def test_results_may_be_passed_on(self):
        lot = Lot(3, ("+-0", "0+-"))
        for made in (lot.least(), lot.layings(), lot.uprights(), lot | lot, lot.with_turned()):
            self.assertEqual(Lot(made.many, made.rows), made)
            self.assertEqual(Lot(made.many, tuple(made)), made)

    def test_laying_rows_of_lots(self):
        for lot in SMALL[::3]:
            layings = set(lot.layings())
            self.assertTrue(all(over(one, other) in layings for one in layings for other in layings))
            self.assertTrue(all(has(row) <= {thing for one in lot for thing in has(one)} for row in layings))


if __name__ == "__main__":
    unittest.main()
