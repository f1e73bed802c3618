"""Lots of rounds: [0.11] to [0.13], [3.1] to [3.6] and the functions of stage 3."""

import unittest
from itertools import combinations, product

from sidesigns.errors import InvalidLot, InvalidNumber, InvalidRow, Refused
from sidesigns.rows.rows import Lot
from sidesigns.system.rounds import bases_of, cuts_of, is_rounds_paper, rank_of, rounds_paper, taken_out
from sidesigns.table.tables import Table
from support import (POOL, Wrong, apart_at, curve, error_of, has, is_between, least_rows, lots_of_rows, opposite,
                     rows_of, small_tables, told_by, uprights_to)

# Every lot of rows of at most two signs; of three signs every even lot of at most ten rows
# without the zero row, so all lots of rounds, which have at most six; and those of two rows.
LOTS = [lot for many in range(3) for lot in lots_of_rows(many, range(3 ** many + 1))]
HALF = [row for row in rows_of(3) if has(row) and row < opposite(row)]
EVEN = [Lot(3, rows).with_turned() for size in range(6) for rows in combinations(HALF, size)]
ODD = lots_of_rows(3, range(3))


def does_fit(row, one, other, thing):
    return row[thing] == "0" and all(row[at] in (one[at], other[at]) for at in has(row))


def are_other(one, other):
    return other != opposite(one)


def is_right(lot, paper):
    """Whether a paper of the forms of [3.2] tells what is so."""
    rows = lot.rows
    if paper == ("zero",):
        return "0" * lot.many in rows
    if paper[0] == "turned":
        return paper[1] in rows and opposite(paper[1]) not in rows
    _, one, other, *thing = paper
    if one not in rows or other not in rows or not are_other(one, other):
        return False
    if paper[0] == "within":
        return one != other and has(one) <= has(other)
    return thing[0] in apart_at(one, other) and not any(does_fit(row, one, other, thing[0]) for row in rows)


def papers(many, rows):
    """All papers but ("rounds",) over some rows, in the order of the kinds, those of one kind ascending."""
    yield ("zero",)
    for row in rows:
        yield ("turned", row)
    for one, other in product(rows, repeat=2):
        yield ("within", one, other)
    for one, other, thing in product(rows, rows, range(many)):
        yield ("taken", one, other, thing)


def first_paper(lot):
    return next((paper for paper in papers(lot.many, lot.rows) if is_right(lot, paper)), ("rounds",))


def plain_bases(lot):
    free = [things for size in range(lot.many + 1) for things in combinations(range(lot.many), size)
            if not any(has(row) <= set(things) for row in lot)]
    return tuple(sorted(one for one in free if not any(set(one) < set(other) for other in free)))


def plain_cuts(lot):
    return least_rows(uprights_to(lot.rows, lot.many))


def of_tables():
    tables = (small_tables(4, 2, -1, 1)[::11] + small_tables(3, 2, -1, 1)[::5] + small_tables(4, 1, -1, 1)
              + [curve(many, rank) for many in range(8) for rank in range(many + 1)]
              + [Table(5, ((1, 1, 1, 1, 1), (0, 2, 2, 0, 1), (0, 0, 2, 2, 1))),
                 Table(6, ((1, 2, 0, 0, 0, 0), (0, 0, 1, -1, 1, 0), (0, 0, 1, 0, 2, 0)))])
    found = []
    for table in tables:
        if table.rounds not in found:
            found.append(table.rounds)
    return found


ROUNDS = [lot for lot in LOTS + EVEN if first_paper(lot) == ("rounds",)]
DRAWN = of_tables()
# A lot that keeps the four rules and is told by no table: nine points of which
# eight triples stand in line, and by Pappus nine would have to.
LINES = ((0, 1, 2), (3, 4, 5), (0, 4, 8), (0, 5, 7), (1, 3, 8), (1, 5, 6), (2, 3, 7), (2, 4, 6))


class PaperTest(unittest.TestCase):
    def test_how_many_lots_of_rounds(self):
        # No things: 1; one: a loop or none; two: loops, none, and two ways to be alike.
        self.assertEqual([len([lot for lot in ROUNDS if lot.many == many]) for many in range(3)], [1, 2, 6])

    def test_first_paper(self):
        for lot in LOTS + EVEN + ODD:
            self.assertEqual(rounds_paper(lot), first_paper(lot), lot.rows)

    def test_first_paper_of_larger_lots(self):
        for lot in DRAWN:
            self.assertEqual(rounds_paper(lot), ("rounds",))
            for row in lot.rows[:6]:
                for fewer in (lot - Lot(lot.many, (row,)), lot - Lot(lot.many, (row, opposite(row))),
                              lot | Lot(lot.many, ("+" * lot.many, "-" * lot.many)),
                              (lot - Lot(lot.many, (row, opposite(row)))) | Lot(lot.many, (row[:-1] + "0",)).with_turned(),
                              (lot - Lot(lot.many, (row, opposite(row))))
                              | Lot(lot.many, (opposite(row[0]) + row[1:],)).with_turned()):
                    self.assertEqual(rounds_paper(fewer), first_paper(fewer), fewer.rows)

    def test_papers_judged(self):
        for lot in LOTS:
            for paper in papers(lot.many, rows_of(lot.many)):
                self.assertIs(is_rounds_paper(lot, paper), is_right(lot, paper), (lot.rows, paper))
            self.assertIs(is_rounds_paper(lot, ("rounds",)), first_paper(lot) == ("rounds",))

    def test_papers_of_three_signs_judged(self):
        for lot in EVEN[::300] + ODD[::40]:
            for paper in papers(3, rows_of(3)):
                self.assertIs(is_rounds_paper(lot, paper), is_right(lot, paper), (lot.rows, paper))

    def test_told_paper_is_right(self):
        for lot in LOTS + EVEN + ODD + DRAWN:
            self.assertIs(is_rounds_paper(lot, rounds_paper(lot)), True)
            self.assertIs(is_rounds_paper(lot, ("rounds",)), rounds_paper(lot) == ("rounds",))

    def test_the_first_broken_rule_tells(self):
        self.assertEqual(rounds_paper(Lot(2, ("00", "+0", "+-", "++"))), ("zero",))
        self.assertEqual(rounds_paper(Lot(2, ("+0", "+-", "-+", "++"))), ("turned", "++"))
        self.assertEqual(rounds_paper(Lot(0, ("",))), ("zero",))
        self.assertEqual(rounds_paper(Lot(2, ("++", "+-")).with_turned()), ("within", "++", "+-"))

    def test_a_zero_row_fits_and_lies_within(self):
        lot = Lot(2, ("00", "+0", "-0", "++", "--"))
        self.assertIs(is_rounds_paper(lot, ("within", "00", "+0")), True)
        self.assertIs(is_rounds_paper(lot, ("within", "00", "00")), False)
        self.assertIs(is_rounds_paper(lot, ("taken", "+0", "--", 0)), False)
        self.assertEqual(taken_out(lot, "+0", "-0", 0), "00")

    def test_every_value_is_judged(self):
        broken = Lot(3, ("++0", "--0", "0++", "0--", "+++"))
        lots = (Lot(0), Lot(3), broken, Lot(3, ("+-0", "-+0")))
        words = ("rounds", "zero", "turned", "within", "taken", "other", None, 1, Lot(3), ())
        for lot in lots:
            for value in POOL:
                self.assertIs(is_rounds_paper(lot, value), False)
                for word in words:
                    self.assertIs(is_rounds_paper(lot, (word, value)), word == "turned" and value == "+++"
                                  and lot is broken)
                    self.assertIs(is_rounds_paper(lot, (word, value, value)), False)
                    self.assertIs(is_rounds_paper(lot, (word, "++0", value)),
                                  lot is broken and word == "within" and value == "+++")
                    self.assertIs(is_rounds_paper(lot, (word, "++0", "0--", value)),
                                  lot is broken and word == "taken" and is_between(value, 1, 1))
        self.assertIs(is_rounds_paper(broken, ("taken", "++0", "0--", 1)), True)

    def test_forms_of_papers(self):
        lot = Lot(3, ("000", "++0", "--0", "0++", "0--", "+++"))
        for value in ("zero", ["zero"], ("zero", None), ("zero", "000"), ("turned",), ("turned", "+++", "+++"),
                      ["turned", "+++"], ("within", "++0"), ("within", "++0", "+++", 1), ("taken", "++0", "0--"),
                      ("rounds", "000"), ("zero", ()), (("zero",),)):
            self.assertIs(is_rounds_paper(lot, value), False, value)
        self.assertIs(is_rounds_paper(lot, ("zero",)), True)
        self.assertIs(is_rounds_paper(lot, ("turned", "+++")), True)
        self.assertIs(is_rounds_paper(Lot(3), ("rounds",)), True)

    def test_true_and_false_are_no_things(self):
        lot = Lot(2, ("++", "--", "+-", "-+"))
        self.assertIs(is_rounds_paper(lot, ("taken", "++", "+-", 1)), True)
        self.assertIs(is_rounds_paper(lot, ("taken", "++", "+-", True)), False)
        self.assertIs(is_rounds_paper(lot, ("taken", "++", "-+", 0)), True)
        self.assertIs(is_rounds_paper(lot, ("taken", "++", "-+", False)), False)
        for thing in (-1, -2, 2, 10 ** 80, -10 ** 80):
            self.assertIs(is_rounds_paper(lot, ("taken", "++", "+-", thing)), False)


def plain_taken(lot, one, other, thing, kept):
    if thing not in apart_at(one, other):
        return (Refused, ("apart", thing))
    if kept is not None and (one[kept] == "0" or kept in apart_at(one, other)):
        return (Refused, ("kept", kept))
    return next((row for row in lot.rows if does_fit(row, one, other, thing)
                 and (kept is None or row[kept] == one[kept])), None)


class TakenTest(unittest.TestCase):
    def check(self, lot):
        for one, other, thing in product(lot.rows, lot.rows, range(lot.many)):
            for kept in (None, *range(lot.many)):
                expected = plain_taken(lot, one, other, thing, kept)
                if isinstance(expected, tuple):
                    error = error_of(lambda: taken_out(lot, one, other, thing, kept=kept))
                    self.assertEqual(told_by(error), expected)
                else:
                    self.assertEqual(taken_out(lot, one, other, thing, kept=kept), expected)

    def test_small(self):
        for lot in LOTS + EVEN[::150] + DRAWN[::12]:
            self.check(lot)

    def test_one_of_two_signs(self):
        lot = Lot(4, ("+++0", "-+0+", "0++0", "0+0+", "0+++", "00++", "+-0+"))
        self.assertEqual(taken_out(lot, "+++0", "-+0+", 0), "0+++")
        self.assertEqual(taken_out(lot, "+++0", "-+0+", 0, kept=2), "0+++")
        self.assertEqual(taken_out(lot, "-+0+", "+++0", 0, kept=3), "0+++")
        self.assertEqual(taken_out(lot - Lot(4, ("0+++",)), "-+0+", "+++0", 0, kept=3), "0+0+")

    def test_without_kept_and_with_none(self):
        lot = Lot(3, ("++0", "--0", "0++", "0--", "+0-", "-0+"))
        self.assertEqual(taken_out(lot, "++0", "-0+", 0), taken_out(lot, "++0", "-0+", 0, kept=None))

    def test_kept_in_lots_of_rounds(self):
        """[3.3], over all small lots of rounds."""
        for lot in ROUNDS + DRAWN[::4]:
            for one, other in product(lot.rows, repeat=2):
                for thing in apart_at(one, other) if are_other(one, other) else ():
                    for kept in has(one) - apart_at(one, other):
                        row = taken_out(lot, one, other, thing, kept=kept)
                        self.assertEqual((row[thing], row[kept]), ("0", one[kept]))

    def test_wrong_arguments(self):
        lot = Lot(3, ("+-0", "-+0", "0+-", "0-+", "+0-", "-0+"))

        def is_in(value):
            return isinstance(value, str) and value in lot.rows

        def is_thing(value):
            return is_between(value, 0, 2)

        Wrong(taken_out, (lot, "+-0", "0+-", 1, 0), (
            (InvalidLot, lambda value: isinstance(value, Lot)), (InvalidRow, is_in), (InvalidRow, is_in),
            (InvalidNumber, is_thing), (InvalidNumber, lambda value: value is None or is_thing(value))),
            named=("kept",)).check(self)
        for row in ("+++", "000", "+-"):
            self.assertEqual(error_of(lambda: taken_out(lot, row, "+-0", 0)).__class__, InvalidRow)
            self.assertEqual(error_of(lambda: taken_out(lot, "+-0", row, 0)).__class__, InvalidRow)

    def test_errors_that_come_then(self):
        lot = Lot(3, ("+-0", "-+0", "0+-", "0-+", "+0-", "-0+"))
        for kept, expected in ((3, (InvalidNumber, 3)), (2, (Refused, ("apart", 0))), (1, (Refused, ("apart", 0))),
                               (True, (InvalidNumber, True)), (0, (Refused, ("apart", 0)))):
            error = error_of(lambda: taken_out(lot, "+-0", "0+-", 0, kept=kept))
            self.assertEqual(told_by(error), expected)
        for kept in (1, 2):
            error = error_of(lambda: taken_out(lot, "+-0", "0+-", 1, kept=kept))
            self.assertEqual(told_by(error), (Refused, ("kept", kept)))
        self.assertEqual(taken_out(lot, "+-0", "0+-", 1, kept=0), "+0-")

    def test_kept_is_passed_by_keyword(self):
        lot = Lot(2, ("++", "--"))
        self.assertEqual(error_of(lambda: taken_out(lot, "++", "--", 0, 1)).__class__, TypeError)


class BasesTest(unittest.TestCase):
    def test_bases_and_rank(self):
        """[3.4], and the words of [0.13]."""
        for lot in ROUNDS + DRAWN:
            bases = bases_of(lot)
            self.assertEqual(bases, plain_bases(lot))
            self.assertGreaterEqual(len(bases), 1)
            self.assertEqual({len(base) for base in bases}, {rank_of(lot)})

    def test_bases_of_tables(self):
        for many in range(10):
            for rank in range(many + 1):
                lot = curve(many, rank).rounds
                self.assertEqual(rank_of(lot), rank)
                self.assertEqual(bases_of(lot), tuple(combinations(range(many), rank)))

    def test_edges(self):
        for many in range(10):
            self.assertEqual((bases_of(Lot(many)), rank_of(Lot(many))), ((tuple(range(many)),), many))
            loops = Lot(many, tuple("0" * at + "+" + "0" * (many - at - 1) for at in range(many))).with_turned()
            self.assertEqual((bases_of(loops), rank_of(loops), cuts_of(loops)), (((),), 0, Lot(many)))
            self.assertEqual(cuts_of(Lot(many)), loops)

    def test_refused_and_wrong(self):
        for call in (bases_of, rank_of, cuts_of):
            for lot in LOTS + ODD + EVEN[::37]:
                paper = rounds_paper(lot)
                if paper != ("rounds",):
                    self.assertEqual(told_by(error_of(lambda: call(lot))), (Refused, paper))
        for call in (bases_of, rank_of, cuts_of, rounds_paper):
            Wrong(call, (Lot(3),), ((InvalidLot, lambda value: isinstance(value, Lot)),)).check(self)
        for value in (("rounds",), None, ["x"]):
            Wrong(lambda lot, value=value: is_rounds_paper(lot, value), (Lot(3),),
                  ((InvalidLot, lambda value: isinstance(value, Lot)),)).check(self)
        self.assertEqual(error_of(lambda: cuts_of(Table(0, ()))).__class__, InvalidLot)


class CutsTest(unittest.TestCase):
    def test_cuts(self):
        """The plain words of [0.12]."""
        for lot in ROUNDS + [lot for lot in DRAWN if lot.many <= 6]:
            self.assertEqual(list(cuts_of(lot)), plain_cuts(lot))
            self.assertEqual(cuts_of(lot).many, lot.many)

    def test_cuts_of_tables(self):
        for table in small_tables(4, 2, -1, 1)[::17] + [curve(many, rank) for many in range(10)
                                                       for rank in range(many + 1)]:
            self.assertEqual(cuts_of(table.rounds), table.cuts)
            self.assertEqual(cuts_of(table.cuts), table.rounds)

    def test_opposite(self):
        """[3.6], over all small lots of rounds."""
        for lot in ROUNDS + DRAWN:
            cuts = cuts_of(lot)
            self.assertEqual(rounds_paper(cuts), ("rounds",))
            self.assertEqual(cuts_of(cuts), lot)
            others = {tuple(thing for thing in range(lot.many) if thing not in base) for base in bases_of(lot)}
            self.assertEqual(bases_of(cuts), tuple(sorted(others)))
            self.assertEqual(rank_of(lot) + rank_of(cuts), lot.many)

    def test_round_and_cut_of_a_base(self):
        """[3.5] and the two rows of [0.13], over all small lots of rounds."""
        for lot in ROUNDS + DRAWN[::5]:
            cuts = cuts_of(lot)
            for base in bases_of(lot):
                others = [thing for thing in range(lot.many) if thing not in base]
                for thing, other in product(base, others):
                    one = [row for row in lot if row[other] == "+" and has(row) <= {other, *base}]
                    cut = [row for row in cuts if row[thing] == "+" and has(row) <= {thing, *others}]
                    self.assertEqual((len(one), len(cut)), (1, 1))
                    expected = opposite(one[0][thing])
                    self.assertEqual(cut[0][other], expected)

    def test_told_by_no_table(self):
        lot = not_drawn()
        self.assertEqual(rounds_paper(lot), ("rounds",))
        self.assertEqual(rank_of(lot), 3)
        self.assertEqual(bases_of(lot), tuple(things for things in combinations(range(9), 3) if things not in LINES))
        self.assertEqual(cuts_of(cuts_of(lot)), lot)

    def test_nothing_changes(self):
        for lot in DRAWN[::9]:
            before = (lot.many, lot.rows)
            results = [(rounds_paper(lot), bases_of(lot), rank_of(lot), cuts_of(lot)) for _ in range(2)]
            self.assertEqual(results[0], results[1])
            self.assertEqual((lot.many, lot.rows), before)


def not_drawn():
    """Nine points with the eight lines, of which the ninth one is bent at the points 6, 7 and 8."""
    # The points on the lines 0 1 2 and 3 4 5, and the crossings of the six others.
    points = {0: (0, 0, 1), 1: (2, 0, 1), 2: (5, 0, 1), 3: (0, 4, 1), 4: (3, 4, 1), 5: (4, 4, 1)}
    for name, one, other in ((6, (1, 5), (2, 4)), (7, (0, 5), (2, 3)), (8, (0, 4), (1, 3))):
        points[name] = crossing(line(points[one[0]], points[one[1]]), line(points[other[0]], points[other[1]]))
    columns = [points[name] for name in range(9)]
    table = Table(9, tuple(zip(*columns)))
    signs = dict(zip(combinations(range(9), 3), table.signs))
    assert signs[(6, 7, 8)] == "0" and all(signs[one] == "0" for one in LINES)
    signs[(6, 7, 8)] = "+"
    rows = []
    for things in combinations(range(9), 4):
        row = ["0"] * 9
        for at, thing in enumerate(things):
            one = signs[things[:at] + things[at + 1:]]
            row[thing] = one if at % 2 == 0 else opposite(one)
        rows.append("".join(row))
    return Lot(9, tuple(row for row in rows if has(row))).with_turned().least()


def line(one, other):
    return (one[1] * other[2] - one[2] * other[1], one[2] * other[0] - one[0] * other[2],
            one[0] * other[1] - one[1] * other[0])


def crossing(one, other):
    x, y, z = line(one, other)
    return (x, y, z) if z > 0 else (-x, -y, -z)


if __name__ == "__main__":
    unittest.main()
