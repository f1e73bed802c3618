"""Paintings: [0.17], [6.1] to [6.6] and the functions of stage 6."""

import unittest
from itertools import combinations, product

from sidesigns.errors import InvalidLot, InvalidNumber, InvalidOperation, InvalidPainting, InvalidSystem, InvalidTable, TooMany
from sidesigns.rows.rows import Lot
from sidesigns.system.paintings import (in_table, is_in_table, is_painted, is_pair_paper, painted, paintings, pair_paper)
from sidesigns.system.systems import System
from sidesigns.table.tables import Table
from support import (POOL, Wrong, are_upright, curve, error_of, has, is_between, is_plain, lots_of_rows, opposite, rows_of,
                     signs_of, small_tables, told_by)
from worlds import COLUMNED, FIVE, FOUR, LINE, MIXED, PLANE, SIX, TINY, bent, some_tables

WORDS = ["".join(word) for size in range(5) for word in combinations("acos", size)]
AT_ROUNDS = {"r": "+", "s": "+0", "a": "-0", "o": "+-0", "c": "0"}
AT_CUTS = {"r": "+", "s": "+0", "a": "-0", "o": "0", "c": "+-0"}


def all_paintings(many, letters="acos"):
    return sorted("".join(word) for word in product(letters + "r", repeat=many) if word.count("r") == 1)


def is_painting(value, many):
    return isinstance(value, str) and len(value) == many and value.count("r") == 1 and set(value) <= set("rsaoc")


def does_fit(row, painting, allowed):
    return all(sign in allowed[letter] for sign, letter in zip(row, painting))


def fitting(rounds, cuts, painting):
    """All values that tell a round or a cut of two lots that fits."""
    return ([("round", row) for row in rounds if does_fit(row, painting, AT_ROUNDS)]
            + [("cut", row) for row in cuts if does_fit(row, painting, AT_CUTS)])


class PaintedTest(unittest.TestCase):
    def test_one_of_both(self):
        """[0.17], [6.3]: over all paintings."""
        for system in TINY + FOUR + FIVE[::20] + COLUMNED[::40]:
            for painting in all_paintings(system.many):
                found = fitting(system.rounds, system.cuts, painting)
                self.assertEqual(len({word for word, _ in found}), 1)
                self.assertEqual(painted(system, painting), found[0])

    def test_larger(self):
        for system in (bent(), System.of_table(curve(9, 4)), ~System.free(9), System.free(9)):
            for painting in all_paintings(4)[::5]:
                painting = painting + "acoso"
                found = fitting(system.rounds, system.cuts, painting)
                self.assertEqual(painted(system, painting), found[0])

    def test_judged(self):
        for system in TINY + FOUR[::30]:
            for painting in all_paintings(system.many)[::3]:
                found = fitting(system.rounds, system.cuts, painting)
                for word, row in product(("round", "cut"), rows_of(system.many)):
                    self.assertIs(is_painted(system, painting, (word, row)), (word, row) in found)
                self.assertIs(is_painted(system, painting, painted(system, painting)), True)

    def test_no_other_value(self):
        for value in POOL:
            self.assertIs(is_painted(LINE, "rsss", value), False)
            for told in (("round", value), ("cut", value), ["cut", value], ("cut", "++++", value), (value, "++++")):
                self.assertIs(is_painted(LINE, "rooo", told), False)
        self.assertIs(is_painted(LINE, "rccc", ("cut", "+++0")), True)
        self.assertIs(is_painted(LINE, "rccc", ["cut", "+++0"]), False)

    def test_things_without_paintings(self):
        for painting in ("", "r", "rs"):
            self.assertEqual(error_of(lambda: painted(System.free(0), painting)).__class__, InvalidPainting)


class PaintingsTest(unittest.TestCase):
    def test_all(self):
        for many in range(5):
            for letters in WORDS:
                self.assertEqual(list(paintings(many, letters=letters)), all_paintings(many, letters))
            self.assertEqual(list(paintings(many)), all_paintings(many))
        self.assertEqual(list(paintings(0)), [])
        self.assertEqual(list(paintings(1, letters="")), ["r"])
        self.assertEqual(list(paintings(2, letters="")), [])

    def test_nine_things(self):
        count, last = 0, ""
        for painting in paintings(9):
            count += 1
            self.assertLess(last, painting)
            last = painting
        self.assertEqual((count, last), (9 * 4 ** 8, "ssssssssr"))
        self.assertEqual(len(list(paintings(9, letters="co"))), 9 * 2 ** 8)

    def test_wrong_arguments(self):
        Wrong(paintings, (3, "co"), ((InvalidNumber, lambda value: is_between(value, 0, 9)),
                                     (InvalidOperation, lambda value: isinstance(value, str) and value in WORDS)),
              named=("letters",)).check(self)
        for letters in ("oc", "aa", "acosr", "r", "s ", "soca", None, ("a",)):
            generator = paintings(3, letters=letters)
            self.assertEqual(error_of(lambda: next(generator)).__class__, InvalidOperation)
        self.assertEqual(error_of(lambda: paintings(3, "co")).__class__, TypeError)


def pair_papers(rounds, cuts):
    """All right pair papers on broken rules, in the order of the document; paintings of "r", "o" and "c" alone."""
    named = (("rounds", rounds), ("cuts", cuts))
    many = rounds.many
    yield from (("zero", name) for name, lot in named if "0" * many in lot.rows)
    yield from (("turned", name, row) for name, lot in named for row in lot if opposite(row) not in lot.rows)
    for name, lot in named:
        for row, other in product(lot.rows, repeat=2):
            if has(row) and row != other and row != opposite(other) and has(row) <= has(other):
                yield ("within", name, row, other)
    yield from (("upright", row, other) for row, other in product(rounds, cuts) if not are_upright(row, other))
    for painting in all_paintings(many, "co"):
        if not fitting(rounds, cuts, painting):
            yield ("painting", painting)


def pairs():
    """Pairs of lots: those of systems, and others that come of them, and small ones."""
    small = lots_of_rows(1, range(4)) + lots_of_rows(2, range(3))
    found = [(one, other) for one, other in product(small, repeat=2) if one.many == other.many]
    for system in TINY + FOUR[::20] + FIVE[::50] + [LINE, PLANE, MIXED]:
        rounds, cuts = system.rounds, system.cuts
        found.append((rounds, cuts))
        found.append((cuts, cuts))
        for lot, is_first in ((rounds, True), (cuts, False)):
            for row in lot.rows[:3]:
                for other in (lot - Lot(lot.many, (row,)), lot - Lot(lot.many, (row, opposite(row))),
                              lot | Lot(lot.many, ("+" * lot.many,)).with_turned(), lot | Lot(lot.many, ("0" * lot.many,)),
                              (lot - Lot(lot.many, (row, opposite(row))))
                              | Lot(lot.many, (opposite(row[0]) + row[1:],)).with_turned()):
                    found.append((other, cuts) if is_first else (rounds, other))
    return found


PAIRS = pairs()


class PairTest(unittest.TestCase):
    def test_first_paper(self):
        for rounds, cuts in PAIRS:
            expected = next(pair_papers(rounds, cuts), ("pair",))
            self.assertEqual(pair_paper(rounds, cuts), expected, (rounds.rows, cuts.rows))

    def test_pairs_are_of_systems(self):
        """[0.17], [6.4]: over all even lots of two signs, and of systems of three."""
        even = [lot for lot in lots_of_rows(2, range(9)) if lot.is_even]
        known = [(system.rounds, system.cuts) for system in TINY if system.many == 2]
        for rounds, cuts in product(even, repeat=2):
            self.assertIs(pair_paper(rounds, cuts) == ("pair",), (rounds, cuts) in known)
        three = [system for system in TINY if system.many == 3]
        for one, other in product(three, repeat=2):
            self.assertIs(pair_paper(one.rounds, other.cuts) == ("pair",), one == other)
        for system in FOUR + FIVE + SIX + COLUMNED + [bent(), System.of_table(curve(9, 4))]:
            self.assertEqual(pair_paper(system.rounds, system.cuts), ("pair",))

    def test_judged(self):
        for rounds, cuts in PAIRS[::9]:
            right = set(pair_papers(rounds, cuts))
            many = rounds.many
            rows = rows_of(many) if many <= 3 else rows_of(many)[::5] + list(rounds.rows) + list(cuts.rows)
            for name in ("rounds", "cuts"):
                self.assertIs(is_pair_paper(rounds, cuts, ("zero", name)), ("zero", name) in right)
                for row in rows:
                    self.assertIs(is_pair_paper(rounds, cuts, ("turned", name, row)), ("turned", name, row) in right)
            for row, other in product(rows[:40], rows[-40:]):
                paper = ("upright", row, other)
                self.assertIs(is_pair_paper(rounds, cuts, paper), paper in right)
                for name in ("rounds", "cuts"):
                    paper = ("within", name, row, other)
                    self.assertIs(is_pair_paper(rounds, cuts, paper), paper in right)
            self.assertIs(is_pair_paper(rounds, cuts, ("pair",)), not right)

    def test_paintings_judged(self):
        for rounds, cuts in PAIRS[::25]:
            for painting in all_paintings(rounds.many):
                expected = not fitting(rounds, cuts, painting)
                self.assertIs(is_pair_paper(rounds, cuts, ("painting", painting)), expected)

    def test_right_papers_are_accepted(self):
        for rounds, cuts in PAIRS:
            for paper in list(pair_papers(rounds, cuts))[:60]:
                self.assertIs(is_pair_paper(rounds, cuts, paper), True, paper)
            self.assertIs(is_pair_paper(rounds, cuts, pair_paper(rounds, cuts)), True)

    def test_the_zero_row_lies_within_none(self):
        lot = Lot(2, ("00", "++", "--"))
        for rounds, cuts, name in ((lot, Lot(2), "rounds"), (Lot(2), lot, "cuts")):
            self.assertIs(is_pair_paper(rounds, cuts, ("within", name, "00", "++")), False)
            self.assertIs(is_pair_paper(rounds, cuts, ("zero", name)), True)
            self.assertEqual(pair_paper(rounds, cuts), ("zero", name))

    def test_no_other_value(self):
        lots = (Lot(3, ("++-", "--+", "000", "+00")), Lot(3, ("+0+", "-0-", "0++")))
        for value in POOL:
            self.assertIs(is_pair_paper(*lots, value), False)
            for told in (("pair", value), ("zero", value), ("turned", value), ("turned", value, "0++"), ("turned", "cuts", value),
                         ("within", value, "+00", "++-"), ("within", "rounds", value, "++-"), ("upright", value, "+0+"),
                         ("upright", "++-", value), ("painting", value), (value, "rounds"), (value, "rounds", "+00"),
                         [value, "rounds"], ("zero", "rounds", value), ("within", "rounds", "+00", value)):
                right = told in (("turned", "cuts", "0++"), ("within", "rounds", "+00", "++-"), ("painting", "orc")) \
                    or (told[0] == "upright" and value in ("+00", "+0+", "0++", "++-"))
                if not right and not (told[0] == "painting" and is_painting(value, 3)):
                    self.assertIs(is_pair_paper(*lots, told), False, told)

    def test_six_hundred_rows(self):
        rows = tuple(row for row in rows_of(6) if has(row))
        for size in (600, 601, 728):
            lot = Lot(6, rows[:size])
            for one, other in ((lot, Lot(6)), (Lot(6), lot), (lot, lot)):
                expected = (TooMany, 600) if size > 600 else (type(None), None)
                self.assertEqual(told_by(error_of(lambda: pair_paper(one, other))), expected)
                self.assertEqual(told_by(error_of(lambda: is_pair_paper(one, other, ("pair",)))), expected)

    def test_wrong_arguments(self):
        def is_lot(value):
            return isinstance(value, Lot)

        def is_second(value):
            return isinstance(value, Lot) and value.many == 3

        for call in (pair_paper, lambda rounds, cuts: is_pair_paper(rounds, cuts, ("pair",))):
            Wrong(call, (Lot(3), Lot(3)), ((InvalidLot, is_lot), (InvalidLot, is_second))).check(self)
            self.assertEqual(error_of(lambda: call(Lot(6, tuple(rows_of(6))), Lot(5))).__class__, InvalidLot)


TABLES = [Table(3, ((1, 0, 1), (0, 1, 1))), Table(4, ((1, 1, 1, 1), (0, 1, 2, 3), (1, 2, 3, 4))), Table(2, ()),
          Table(3, ((0, 0, 0),)), Table(3, ((2, 0, -3), (4, 0, -6)))] + small_tables(2, 2, -1, 1)[::9] + some_tables(4, 2, 7)[::6]


class TableTest(unittest.TestCase):
    def test_sums_and_weights(self):
        """[6.6]: one of both, and the least row tells it."""
        for table in TABLES:
            for painting in all_paintings(table.many):
                word, row = fitting(table.rounds, table.cuts, painting)[0]
                if word == "round":
                    self.assertEqual(in_table(table, painting), ("sum", table.round_sum(row)))
                else:
                    self.assertEqual(in_table(table, painting), ("weights", table.cut_weights(row)))
                self.assertIs(is_in_table(table, painting, in_table(table, painting)), True)

    def test_judged(self):
        for table in TABLES[::3]:
            sums = list(product(range(-1, 3), repeat=table.many))
            weights = list(product(range(-2, 2), repeat=len(table.rows)))
            for painting in all_paintings(table.many)[::5]:
                for numbers in sums:
                    totals = [sum(one * other for one, other in zip(row, numbers)) for row in table.rows]
                    right = not any(totals) and does_fit(signs_of(numbers), painting, AT_ROUNDS)
                    self.assertIs(is_in_table(table, painting, ("sum", numbers)), right)
                for numbers in weights:
                    totals = [sum(row[thing] * weight for row, weight in zip(table.rows, numbers))
                              for thing in range(table.many)]
                    right = does_fit(signs_of(totals), painting, AT_CUTS)
                    self.assertIs(is_in_table(table, painting, ("weights", numbers)), right)

    def test_integers_of_any_size(self):
        table = TABLES[0]
        big = 10 ** 200
        self.assertIs(is_in_table(table, "rsa", ("sum", (big, big, -big))), True)
        self.assertIs(is_in_table(table, "rss", ("weights", (big, 0))), True)
        long = Table(3, ((10 ** 59 + 1, 10 ** 59 + 7, 3), (5, 10 ** 59 - 1, 10 ** 58 + 9)))
        for painting in all_paintings(3):
            told = in_table(long, painting)
            self.assertIs(is_in_table(long, painting, told), True)
        self.assertGreater(max(abs(value) for value in in_table(long, "roo")[1]), 10 ** 60)
        self.assertIs(is_in_table(long.upright_table(), "ccr", in_table(long.upright_table(), "ccr")), True)

    def test_no_other_value(self):
        table = TABLES[0]
        self.assertIs(is_in_table(table, "rsa", ("sum", (1, 1, -1))), True)
        for value in POOL:
            self.assertIs(is_in_table(table, "rsa", value), False)
            for told in (("sum", value), ("weights", value), ("sum", (1, 1, -1), value), (value, (1, 1, -1)),
                         ("sum", (value, 1, -1)), ("sum", (1, 1, -1, value))):
                if not (told == ("sum", (1, 1, -1)) and is_plain(value)):
                    self.assertIs(is_in_table(table, "rsa", told), False)
        for numbers in ((True, 1, -1), (1, True, -1), [1, 1, -1], (1, 1), (0, 0, 0), ("1", 1, -1)):
            self.assertIs(is_in_table(table, "rsa", ("sum", numbers)), False)
        self.assertIs(is_in_table(table, "rss", ("weights", (1, 0))), True)
        for numbers in ((True, 0), (1, False), [1, 0], (1,), (1, 0, 0)):
            self.assertIs(is_in_table(table, "rss", ("weights", numbers)), False)


class WrongArguments(unittest.TestCase):
    def test_systems_and_tables(self):
        def is_right(value):
            return is_painting(value, 3)

        system = System.free(3)
        for kind, right, calls in ((InvalidSystem, system, (painted, lambda *told: is_painted(*told, ("cut", "+00")))),
                                   (InvalidTable, Table(3, ()), (in_table, lambda *told: is_in_table(*told, None)))):
            for call in calls:
                Wrong(call, (right, "rsa"), ((kind, lambda value, right=right: isinstance(value, right.__class__)),
                                             (InvalidPainting, is_right))).check(self)
        for painting in ("rs", "rsas", "rra", "ssa", "rsx", "r a", "RSA", ("r", "s", "a"), "r" * 3000, "rsa\n"):
            self.assertEqual(error_of(lambda: painted(system, painting)).__class__, InvalidPainting)

    def test_nothing_changes(self):
        for rounds, cuts in PAIRS[::40]:
            before = (rounds.rows, cuts.rows)
            self.assertEqual(pair_paper(rounds, cuts), pair_paper(rounds, cuts))
            self.assertEqual((rounds.rows, cuts.rows), before)
        self.assertEqual(list(paintings(3)), list(paintings(3)))
        self.assertEqual(painted(LINE, "rsao"), painted(LINE, "rsao"))


if __name__ == "__main__":
    unittest.main()
