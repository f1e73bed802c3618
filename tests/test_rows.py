"""Sign rows: [0.8] to [0.10], [1.1] and the functions on rows."""

import unittest
from itertools import combinations, product

from sidesigns.errors import InvalidNumber, InvalidOperation, InvalidRow
from sidesigns.rows import rows as module
from sidesigns.rows.rows import (all_rows, apart, is_upright, laid_over, signs_at, spread, things_of, turned,
                                 zeros_of)
from support import Wrong, apart_at, are_upright, has, is_between, is_row, is_things, opposite, over, rows_of

SHORT = [row for many in range(4) for row in rows_of(many)]
PAIRS = [(one, other) for many in range(4) for one in rows_of(many) for other in rows_of(many)]
LONG = ("+-0+-0+-0", "0-+0-+0-+", "+++++++++", "---------", "000000000", "0000+----")


def subsets(many):
    return [things for size in range(many + 1) for things in combinations(range(many), size)]


class OneRowTest(unittest.TestCase):
    def test_constants(self):
        self.assertEqual((module.MAX_THINGS, module.MAX_LAYINGS, module.MAX_UPRIGHT), (9, 7000, 7))

    def test_turned(self):
        for row in SHORT + list(LONG):
            self.assertEqual(turned(row), opposite(row))
            self.assertEqual(turned(row, None), opposite(row))

    def test_turned_at_things(self):
        for row in SHORT + list(LONG):
            for things in subsets(len(row)):
                expected = "".join(opposite(sign) if at in things else sign for at, sign in enumerate(row))
                self.assertEqual(turned(row, things), expected)

    def test_things_and_zeros(self):
        for row in SHORT + list(LONG):
            self.assertEqual(things_of(row), tuple(sorted(has(row))))
            self.assertEqual(zeros_of(row), tuple(sorted(set(range(len(row))) - has(row))))

    def test_signs_at(self):
        for row in SHORT + list(LONG):
            for things in subsets(len(row)):
                self.assertEqual(signs_at(row, things), "".join(row[thing] for thing in things))

    def test_spread(self):
        for many in range(6):
            for things in subsets(many):
                for row in rows_of(len(things)):
                    signs = dict(zip(things, row))
                    expected = "".join(signs.get(thing, "0") for thing in range(many))
                    self.assertEqual(spread(row, things, many), expected)
        self.assertEqual(spread("+-", (0, 8), 9), "+0000000-")
        self.assertEqual(spread("+-0+-0+-0", tuple(range(9)), 9), "+-0+-0+-0")

    def test_spread_takes_back_signs_at(self):
        for row in SHORT:
            for things in subsets(len(row)):
                rest = tuple(thing for thing in range(len(row)) if thing not in things)
                parts = spread(signs_at(row, things), things, len(row)), spread(signs_at(row, rest), rest, len(row))
                self.assertEqual(laid_over(*parts), row)

    def test_all_rows(self):
        for many in range(10):
            rows = list(all_rows(many))
            self.assertEqual(len(rows), 3 ** many)
            self.assertEqual(rows, sorted(set(rows)))
            self.assertTrue(all(is_row(row, many) for row in rows))
        self.assertEqual(list(all_rows(1)), ["+", "-", "0"])

    def test_all_rows_is_a_generator(self):
        rows = all_rows(2)
        self.assertIs(iter(rows), rows)
        self.assertEqual([next(rows), next(rows)], ["++", "+-"])


class TwoRowsTest(unittest.TestCase):
    def test_laid_over(self):
        for one, other in PAIRS + list(product(LONG, repeat=2)):
            self.assertEqual(laid_over(one, other), over(one, other))

    def test_apart(self):
        for one, other in PAIRS + list(product(LONG, repeat=2)):
            self.assertEqual(apart(one, other), tuple(sorted(apart_at(one, other))))

    def test_is_upright(self):
        for one, other in PAIRS + list(product(LONG, repeat=2)):
            self.assertIs(is_upright(one, other), are_upright(one, other))

    def test_zero_row_and_itself(self):
        for row in SHORT:
            self.assertIs(is_upright(row, "0" * len(row)), True)
            self.assertIs(is_upright("0" * len(row), row), True)
            self.assertIs(is_upright(row, row), not has(row))

    def test_every_thing_counts_for_upright(self):
        for many in range(2, 10):
            for one, other in combinations(range(many), 2):
                row = spread("++", (one, other), many)
                self.assertTrue(is_upright(row, spread("+-", (one, other), many)))
                self.assertFalse(is_upright(row, spread("--", (one, other), many)))


class LayingTest(unittest.TestCase):
    """[1.1], over all small rows."""

    def test_from_either_side(self):
        for many in range(4):
            rows = rows_of(many)
            for one, other, third in product(rows, repeat=3):
                self.assertEqual(laid_over(one, laid_over(other, third)), laid_over(laid_over(one, other), third))

    def test_over_itself(self):
        for row in SHORT:
            self.assertEqual(laid_over(row, row), row)

    def test_order_counts_exactly_if_apart(self):
        for one, other in PAIRS:
            self.assertEqual(laid_over(one, other) == laid_over(other, one), apart(one, other) == ())

    def test_turning_keeps(self):
        for one, other in PAIRS:
            for things in subsets(len(one)):
                pair = turned(one, things), turned(other, things)
                self.assertEqual(is_upright(*pair), is_upright(one, other))
                self.assertEqual(apart(*pair), apart(one, other))


class WrongArguments(unittest.TestCase):
    def test_each_parameter(self):
        any_row = (InvalidRow, is_row)
        three = (InvalidRow, lambda value: is_row(value, 3))
        things = (InvalidOperation, lambda value: is_things(value, 3))
        right = ("+-0", "0+-")
        for call in (laid_over, apart, is_upright):
            Wrong(call, right, (three, three)).check(self)
        for call in (things_of, zeros_of):
            Wrong(call, right[:1], (any_row,)).check(self)
        Wrong(turned, ("+-0", (0, 2)), (any_row, (InvalidOperation, lambda value: value is None or things[1](value)))
              ).check(self)
        Wrong(signs_at, ("+-0", (0, 2)), (any_row, things)).check(self)
        Wrong(all_rows, (3,), ((InvalidNumber, lambda value: is_between(value, 0, 9)),)).check(self)

    def test_laid_over_of_unlike_lengths(self):
        for call in (laid_over, apart, is_upright):
            for one, other in (("+", "++"), ("++", "+"), ("", "0"), ("+" * 9, "+" * 8)):
                with self.assertRaises(InvalidRow):
                    call(one, other)

    def test_rows_are_compared_after_the_first_one(self):
        with self.assertRaises(InvalidRow):
            laid_over("+" * 10, "+" * 10)

    def test_spread(self):
        Wrong(spread, ("+-0", (0, 1, 2), 4), (
            (InvalidRow, is_row),
            (InvalidOperation, lambda value: is_things(value, 9) and len(value) == 3),
            (InvalidNumber, lambda value: is_between(value, 3, 9)))).check(self)

    def test_spread_asks_for_as_many_things_as_signs(self):
        for things in ((), (0,), (0, 1, 2)):
            with self.assertRaises(InvalidOperation):
                spread("+-", things, 9)
        with self.assertRaises(InvalidOperation):
            spread("+", (9,), 9)

    def test_spread_asks_for_a_number_above_the_things(self):
        for many in (0, 3, 4):
            with self.assertRaises(InvalidNumber) as caught:
                spread("+", (4,), many)
            self.assertEqual(caught.exception.value, many)
        with self.assertRaises(InvalidNumber):
            spread("", (), -1)
        self.assertEqual(spread("+", (4,), 5), "0000+")
        self.assertEqual(spread("", (), 0), "")

    def test_things_of_the_row(self):
        for things in ((3,), (0, 3), (-1,), (1, 0), (1, 1)):
            for call in (turned, signs_at):
                with self.assertRaises(InvalidOperation):
                    call("+-0", things)

    def test_generator_raises_with_its_first_one(self):
        for value in (10, -1, True, None, "3"):
            rows = all_rows(value)
            with self.assertRaises(InvalidNumber) as caught:
                next(rows)
            self.assertIs(caught.exception.value, value)


if __name__ == "__main__":
    unittest.main()
