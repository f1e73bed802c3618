"""Views, regions and base signs: [5.1] to [5.6] and the functions of stage 5."""

import unittest
from itertools import combinations, product

from sidesigns.errors import InvalidLot, InvalidNumber, InvalidRow, Refused, TooMany
from sidesigns.rows.rows import Lot
from sidesigns.system.judging import (is_regions_paper, is_signs_paper, is_views_paper, regions_paper, signs_paper,
                                      system_of_regions, system_of_signs, system_of_views, views_paper)
from sidesigns.system.systems import System
from support import (POOL, Wrong, apart_at, curve, error_of, has, is_between, is_row, lots_of_rows, opposite, over,
                     rows_of, told_by)
from worlds import (COLUMNED, CURVES, FIVE, FOUR, LINE, PLANE, SIX, TINY, bent, eight, first_sign_paper, lots, right_strings,
                    sign_papers, strings, turned)

SMALL = TINY + FOUR


def breaks_between(rows, one, other, thing):
    """Whether two rows, apart at a thing, break the rule "between" of [5.1] in some rows."""
    whole, parted = over(one, other), apart_at(one, other)
    rest = [at for at in range(len(one)) if at not in parted]
    return not any(row[thing] == "0" and all(row[at] == whole[at] for at in rest) for row in rows)


def between_papers(rows):
    for one, other in product(rows, repeat=2):
        for thing in sorted(apart_at(one, other)):
            if breaks_between(rows, one, other, thing):
                yield ("between", one, other, thing)


def view_papers(lot):
    """All right papers on broken rules about views, in the order of the rules."""
    rows = lot.rows
    if "0" * lot.many not in rows:
        yield ("zero",)
    yield from (("turned", row) for row in rows if opposite(row) not in rows)
    yield from (("laid", one, other) for one, other in product(rows, repeat=2) if over(one, other) not in rows)
    yield from between_papers(rows)


def plain_covered(lot):
    """The covered rows [5.2]."""
    if not lot.rows:
        return []
    return [row for row in rows_of(lot.many) if all(over(row, other) in lot.rows for other in lot.rows)]


def region_papers(lot):
    rows = lot.rows
    if not rows:
        yield ("empty",)
    yield from (("zeros", one, other) for one, other in product(rows, repeat=2) if has(one) != has(other))
    yield from (("turned", row) for row in rows if opposite(row) not in rows)
    yield from between_papers(plain_covered(lot))


def first(papers, word):
    return next(papers, (word,))


# All lots of rows of at most two signs; of three signs all lots of at most two rows, and all
# even lots of at most four turned pairs without zeros.
ROWS = [lot for many in range(3) for lot in lots_of_rows(many, range(3 ** many + 1))] + lots_of_rows(3, range(3))
FULL = [row for row in rows_of(3) if "0" not in row and row[0] == "+"]
HALF = [row for row in rows_of(3) if has(row) and row < opposite(row)]
EVEN = [Lot(3, rows).with_turned() for size in range(5) for rows in combinations(FULL, size)]
ZEROED = [Lot(3, rows + ("000",)).with_turned() for size in range(14) for rows in list(combinations(HALF, size))[::29]]


def broken(lot, step):
    """Lots that come of a lot by leaving rows out or putting turned ones in."""
    rows = lot.rows[::step]
    for row in rows:
        yield lot - Lot(lot.many, (row,))
        yield lot - Lot(lot.many, (row, opposite(row)))
        yield lot | Lot(lot.many, (turned(row, (0,)),))
        yield lot | Lot(lot.many, (turned(row, (0,)),)).with_turned()
        yield (lot - Lot(lot.many, (row, opposite(row)))) | Lot(lot.many, (turned(row, (0,)),)).with_turned()


BROKEN_VIEWS = [other for system in TINY[::3] + FOUR[::40] + [LINE] if system.many for other in broken(system.views(), 7)]
BROKEN_REGIONS = [other for system in TINY[::3] + FOUR[::25] + FIVE[::60] + [LINE] if system.many
                  for other in broken(system.regions(), 5)]


class ViewsTest(unittest.TestCase):
    def test_first_paper(self):
        for lot in ROWS + ZEROED + BROKEN_VIEWS:
            self.assertEqual(views_paper(lot), first(view_papers(lot), "views"), lot.rows)

    def test_papers_judged(self):
        for lot in ROWS[::11] + ZEROED[::60] + BROKEN_VIEWS[::40]:
            right = set(view_papers(lot))
            rows = rows_of(lot.many)[::2] if lot.many > 2 else rows_of(lot.many)
            for row in rows:
                self.assertIs(is_views_paper(lot, ("turned", row)), ("turned", row) in right)
            for one, other in product(rows, repeat=2):
                self.assertIs(is_views_paper(lot, ("laid", one, other)), ("laid", one, other) in right)
                for thing in range(lot.many):
                    paper = ("between", one, other, thing)
                    self.assertIs(is_views_paper(lot, paper), paper in right)
            self.assertIs(is_views_paper(lot, ("zero",)), ("zero",) in right)
            self.assertIs(is_views_paper(lot, ("views",)), not right)

    def test_all_right_papers_are_accepted(self):
        for lot in ROWS[::3] + ZEROED[::7] + BROKEN_VIEWS[::5]:
            for paper in view_papers(lot):
                self.assertIs(is_views_paper(lot, paper), True)

    def test_lots_of_views(self):
        """[5.1], [5.6]: just the views of systems, and of one each."""
        for system in SMALL + FIVE + SIX[::3] + COLUMNED[::9]:
            views = system.views()
            self.assertEqual(views_paper(views), ("views",))
            self.assertEqual(system_of_views(views), system)
        known = [system.views() for system in TINY]
        for lot in ROWS + ZEROED:
            self.assertIs(views_paper(lot) == ("views",), lot in known)

    def test_refused(self):
        for lot in ROWS[::5] + ZEROED[::20] + BROKEN_VIEWS[::9]:
            paper = views_paper(lot)
            if paper != ("views",):
                self.assertEqual(told_by(error_of(lambda: system_of_views(lot))), (Refused, paper))

    def test_larger(self):
        for system in (bent(), System.of_table(curve(9, 3)), System.of_table(curve(8, 4)), ~System.free(9), PLANE + LINE):
            self.assertEqual(system_of_views(system.views()), system)

    def test_fifteen_hundred_rows(self):
        rows = rows_of(7)
        for size, expected in ((1500, (Refused, ("zero",))), (1501, (TooMany, 1500)), (2187, (TooMany, 1500))):
            lot = Lot(7, tuple(rows[:size]))
            self.assertEqual(told_by(error_of(lambda: system_of_views(lot))), expected)
            for call in (views_paper, lambda lot: is_views_paper(lot, None), regions_paper,
                         lambda lot: is_regions_paper(lot, ()), system_of_regions):
                error = error_of(lambda: call(lot))
                if size > 1500:
                    self.assertEqual(told_by(error), (TooMany, 1500))
        six = System.free(6).views()
        self.assertEqual((len(six), views_paper(six)), (729, ("views",)))


class RegionsTest(unittest.TestCase):
    def test_first_paper(self):
        for lot in ROWS + EVEN + BROKEN_REGIONS:
            self.assertEqual(regions_paper(lot), first(region_papers(lot), "regions"), lot.rows)

    def test_papers_judged(self):
        for lot in ROWS[::11] + EVEN + BROKEN_REGIONS[::30]:
            right = set(region_papers(lot))
            rows = rows_of(lot.many)[::2] if lot.many > 2 else rows_of(lot.many)
            for row in rows:
                self.assertIs(is_regions_paper(lot, ("turned", row)), ("turned", row) in right)
            for one, other in product(rows[:30], repeat=2):
                self.assertIs(is_regions_paper(lot, ("zeros", one, other)), ("zeros", one, other) in right)
                for thing in range(lot.many):
                    paper = ("between", one, other, thing)
                    self.assertIs(is_regions_paper(lot, paper), paper in right)
            self.assertIs(is_regions_paper(lot, ("empty",)), ("empty",) in right)
            self.assertIs(is_regions_paper(lot, ("regions",)), not right)

    def test_all_right_papers_are_accepted(self):
        for lot in ROWS[::3] + EVEN + BROKEN_REGIONS[::4]:
            for paper in region_papers(lot):
                self.assertIs(is_regions_paper(lot, paper), True)

    def test_lots_of_regions(self):
        """[5.2], [5.6]: just the regions of systems, and of one each."""
        curves = [system for system in CURVES if len(system.views()) <= 1500]
        self.assertGreater(len(curves), 30)
        for system in SMALL + FIVE + SIX[::3] + curves + COLUMNED[::9]:
            regions = system.regions()
            self.assertEqual(regions_paper(regions), ("regions",))
            self.assertEqual(system_of_regions(regions), system)
        known = [system.regions() for system in TINY]
        for lot in ROWS + EVEN:
            self.assertIs(regions_paper(lot) == ("regions",), lot in known)

    def test_covered_rows_are_views(self):
        for system in TINY + FOUR[::6]:
            self.assertEqual(plain_covered(system.regions()), list(system.views()))

    def test_refused(self):
        for lot in ROWS[::5] + EVEN + BROKEN_REGIONS[::9]:
            paper = regions_paper(lot)
            if paper != ("regions",):
                self.assertEqual(told_by(error_of(lambda: system_of_regions(lot))), (Refused, paper))

    def test_larger(self):
        for system in (bent(), System.of_table(curve(9, 3)), System.of_table(curve(8, 4)), ~System.free(9), PLANE + LINE):
            self.assertEqual(system_of_regions(system.regions()), system)

    def test_too_many_covered_rows(self):
        for many in range(9):
            lot = System.free(many).regions()
            if 3 ** many > 1500:
                for call in (regions_paper, system_of_regions, lambda one: is_regions_paper(one, ("regions",))):
                    self.assertEqual(told_by(error_of(lambda: call(lot))), (TooMany, 1500))
            else:
                self.assertEqual(regions_paper(lot), ("regions",))
        # All rows of seven signs whose first one is "+" are covered by the lot of them.
        lot = Lot(7, tuple(row for row in rows_of(7) if row[0] == "+"))
        self.assertEqual(regions_paper(lot)[0], "zeros")
        # The count comes ahead of all rules: here rows have "0" at unlike things.
        full = [row for row in rows_of(7) if "0" not in row]
        lot = Lot(8, tuple(row + sign for row in full for sign in "0+"))
        for call in (regions_paper, system_of_regions, lambda one: is_regions_paper(one, None)):
            self.assertEqual(told_by(error_of(lambda: call(lot))), (TooMany, 1500))

    def test_lots_without_rows_cover_none(self):
        for many in range(10):
            self.assertEqual(regions_paper(Lot(many)), ("empty",))
            self.assertEqual(told_by(error_of(lambda: system_of_regions(Lot(many)))), (Refused, ("empty",)))


class SignsTest(unittest.TestCase):
    def test_first_paper(self):
        for many in range(4):
            for rank in range(many + 1):
                for text in strings(many, rank):
                    self.assertEqual(signs_paper(many, rank, text), first_sign_paper(many, rank, text))
        for text in strings(4, 2):
            self.assertEqual(signs_paper(4, 2, text), first_sign_paper(4, 2, text))

    def test_first_paper_of_longer_strings(self):
        for many, rank, step in ((5, 2, 23), (5, 3, 29)):
            for text in strings(many, rank)[::step]:
                self.assertEqual(signs_paper(many, rank, text), first_sign_paper(many, rank, text), text)
        for system in SIX + [bent(), eight()]:
            signs = system.signs
            self.assertEqual(signs_paper(system.many, system.rank, signs), ("signs",))
            for at in range(0, len(signs), 5):
                for sign in "+-0":
                    text = signs[:at] + sign + signs[at + 1:]
                    told = (system.many, system.rank, text)
                    self.assertEqual(signs_paper(*told), first_sign_paper(*told))

    def test_products_alone_are_not_enough(self):
        """[5.4]."""
        text = "".join("+" if lot in ((0, 1, 2), (3, 4, 5)) else "0" for lot in lots(6, 3))
        self.assertEqual({paper[0] for paper in sign_papers(6, 3, text)}, {"exchange"})
        self.assertEqual(signs_paper(6, 3, text), ("exchange", (0, 1, 2), (3, 4, 5), 0))

    def test_papers_judged(self):
        for many, rank, step in ((2, 1, 1), (3, 1, 1), (3, 2, 1), (4, 2, 17), (2, 0, 1), (2, 2, 1), (5, 2, 4001)):
            for text in strings(many, rank)[::step]:
                right = set(sign_papers(many, rank, text))
                sets = [lot for size in range(5) for lot in lots(many, size)]
                for paper in right:
                    self.assertIs(is_signs_paper(many, rank, text, paper), True)
                for one, other in product(sets, repeat=2):
                    self.assertIs(is_signs_paper(many, rank, text, ("products", one, other)),
                                  ("products", one, other) in right)
                    for thing in range(-1, many + 1):
                        paper = ("exchange", one, other, thing)
                        self.assertIs(is_signs_paper(many, rank, text, paper), paper in right)
                for word in ("none", "first"):
                    self.assertIs(is_signs_paper(many, rank, text, (word,)), (word,) in right)
                self.assertIs(is_signs_paper(many, rank, text, ("signs",)), not right)

    def test_strings_of_systems(self):
        """[5.3], [5.6]."""
        for system in SMALL + FIVE + SIX + CURVES + COLUMNED + [bent(), eight()]:
            again = system_of_signs(system.many, system.rank, system.signs)
            self.assertEqual((again, again.signs, again.rank), (system, system.signs, system.rank))
        for many in range(4):
            for rank in range(many + 1):
                found = [system.signs for system in TINY if (system.many, system.rank) == (many, rank)]
                self.assertEqual(sorted(found), sorted(right_strings(many, rank)))

    def test_signs_when_a_thing_is_turned(self):
        """[5.6]."""
        for system in SMALL[::3] + FIVE[::8]:
            told = lots(system.many, system.rank)
            for thing in range(system.many):
                signs = [opposite(sign) if thing in lot else sign for lot, sign in zip(told, system.signs)]
                if "".join(signs).strip("0").startswith("-"):
                    signs = [opposite(sign) for sign in signs]
                self.assertEqual(system.turned_at((thing,)).signs, "".join(signs))

    def test_refused(self):
        for text in strings(4, 2)[::7] + strings(4, 3):
            rank = 2 if len(text) == 6 else 3
            paper = signs_paper(4, rank, text)
            if paper != ("signs",):
                self.assertEqual(told_by(error_of(lambda: system_of_signs(4, rank, text))), (Refused, paper))

    def test_edges(self):
        for many in range(10):
            for rank in (0, many):
                self.assertEqual(signs_paper(many, rank, "+"), ("signs",))
                self.assertEqual(signs_paper(many, rank, "-"), ("first",))
                self.assertEqual(signs_paper(many, rank, "0"), ("none",))
            self.assertEqual(system_of_signs(many, many, "+"), System.free(many))
            self.assertEqual(system_of_signs(many, 0, "+"), ~System.free(many))
        self.assertEqual(signs_paper(9, 4, "+" * 126), ("signs",))
        self.assertIs(is_signs_paper(2, 1, "00", ("first",)), False)


class JudgedValues(unittest.TestCase):
    def test_no_other_value(self):
        views = Lot(2, ("00", "++", "--", "+-", "-+"))
        cross = Lot(4, ("++++", "----", "++--", "--++", "+-+-", "-+-+"))
        for value in POOL:
            for judge in (lambda one: is_views_paper(views, one), lambda one: is_regions_paper(cross, one),
                          lambda one: is_signs_paper(4, 2, "++++-+", one)):
                if value != ("products", (), (0, 1, 2, 3)):
                    self.assertIs(judge(value), False)
                for word in ("views", "zero", "turned", "laid", "between", "regions", "empty", "zeros", "signs", "none",
                             "first", "exchange", "products", None, 1):
                    for told in ((word, value), (word, value, value), (word, value, value, 0), (word, "++", "+-", value),
                                 (word, "++++", "+-+-", value), (word, (), value), (word, value, (0, 1, 2, 3)),
                                 (word, (0, 1), (2, 3), value)):
                        right = told in (("between", "++", "+-", 1), ("between", "++++", "+-+-", 1), (
                            "between", "++++", "+-+-", 3), ("products", (), (0, 1, 2, 3))) and value is not True
                        if not right:
                            self.assertIs(judge(told), False, told)

    def test_true_and_false_are_no_things(self):
        views = Lot(2, ("00", "++", "--", "+-", "-+"))
        self.assertIs(is_views_paper(views, ("between", "++", "+-", 1)), True)
        self.assertIs(is_views_paper(views, ("between", "++", "+-", True)), False)
        self.assertIs(is_views_paper(views, ("between", "++", "-+", 0)), True)
        self.assertIs(is_views_paper(views, ("between", "++", "-+", False)), False)
        self.assertIs(is_signs_paper(4, 2, "+0000+", ("exchange", (0, 1), (2, 3), 0)), True)
        for paper in (("exchange", (False, 1), (2, 3), 0), ("exchange", (0, 1), (2, 3), False),
                      ("exchange", [0, 1], (2, 3), 0), ("exchange", (1, 0), (2, 3), 0), ["exchange", (0, 1), (2, 3), 0]):
            self.assertIs(is_signs_paper(4, 2, "+0000+", paper), False)
        self.assertIs(is_signs_paper(4, 2, "++++-+", ("products", (), (0, 1, 2, 3))), True)
        self.assertIs(is_signs_paper(4, 2, "++++-+", ("products", (), (0, True, 2, 3))), False)
        cross = Lot(4, ("++++", "----", "++--", "--++", "+-+-", "-+-+"))
        self.assertIs(is_regions_paper(cross, ("between", "++++", "+-+-", 3)), True)
        self.assertIs(is_regions_paper(cross, ("between", "++++", "+-+-", 2)), False)


class WrongArguments(unittest.TestCase):
    def test_lots(self):
        kinds = ((InvalidLot, lambda value: isinstance(value, Lot)),)
        for call, lot in ((views_paper, Lot(3)), (regions_paper, Lot(3)), (system_of_views, System.free(2).views()),
                          (system_of_regions, System.free(2).regions())):
            Wrong(call, (lot,), kinds).check(self)
        for call in (is_views_paper, is_regions_paper):
            for value in (None, ("views",), ["x"]):
                Wrong(lambda lot, value=value: call(lot, value), (Lot(3),), kinds).check(self)

    def test_signs(self):
        for call in (signs_paper, system_of_signs, lambda *told: is_signs_paper(*told, ("signs",)),
                     lambda *told: is_signs_paper(*told, None), lambda *told: is_signs_paper(*told, ("none",))):
            right = (3, 2, "+++")
            self.assertEqual(error_of(lambda: call(*right)), None)
            for value in [one for one in POOL if not is_between(one, 0, 9)]:
                error = error_of(lambda: call(value, value, value))
                self.assertEqual((error.__class__, error.value is value), (InvalidNumber, True))
            for value in [one for one in POOL if not is_between(one, 0, 3)]:
                error = error_of(lambda: call(3, value, value))
                self.assertEqual((error.__class__, error.value is value), (InvalidNumber, True))
            for value in [one for one in POOL if not is_row(one, 3)]:
                self.assertEqual(error_of(lambda: call(3, 2, value)).__class__, InvalidRow)
            for text in ("++", "++++", "++x", "+" * 3000, ""):
                self.assertEqual(error_of(lambda: call(3, 2, text)).__class__, InvalidRow)
            for many, rank, size in ((9, 4, 126), (9, 9, 1), (0, 0, 1), (6, 3, 20)):
                self.assertIsNone(error_of(lambda: call(many, rank, "+" * size)))
                self.assertEqual(error_of(lambda: call(many, rank, "+" * (size + 1))).__class__, InvalidRow)

    def test_nothing_changes(self):
        for lot in BROKEN_VIEWS[::50] + BROKEN_REGIONS[::50] + ROWS[::60]:
            before = (lot.many, lot.rows)
            results = [(views_paper(lot), regions_paper(lot)) for _ in range(2)]
            self.assertEqual(results[0], results[1])
            self.assertEqual((lot.many, lot.rows), before)


if __name__ == "__main__":
    unittest.main()
