"""Every example of the document's stages 1 to 3, as it stands there."""

import unittest

from sidesigns.errors import InvalidLot, Refused
from sidesigns.rows.rows import (Lot, all_rows, apart, is_upright, laid_over, signs_at, spread, things_of, turned,
                                 zeros_of)
from sidesigns.system.rounds import bases_of, cuts_of, is_rounds_paper, rank_of, rounds_paper, taken_out
from sidesigns.table.tables import Table, determinant


class RowsExamples(unittest.TestCase):
    def test_rows(self):
        self.assertEqual(
            [turned("+-0"), turned("+-0", (1, 2)), laid_over("+0-0", "--+0"), apart("+0-0", "--+0"),
             laid_over("--+0", "+0-0")],
            ['-+0', '++0', '+--0', (0, 2), '--+0'])
        self.assertEqual(
            [is_upright("+0", "0+"), is_upright("++0", "+-+"), is_upright("++", "++"), is_upright("+0", "-+"),
             is_upright("00", "+-")],
            [True, True, False, False, True])
        self.assertEqual(
            [things_of("0+-"), zeros_of("0+-"), signs_at("0+-", (0, 2)), spread("+-", (0, 3), 5),
             len(list(all_rows(3))), list(all_rows(0))],
            [(1, 2), (0,), '0-', '+00-0', 27, ['']])

    def test_lots(self):
        lot = Lot(3, ("+-0", "0+-", "+-0", "+0-"))
        self.assertEqual(
            [str(lot), lot.rows, lot.is_even, "0+-" in lot, len(lot.with_turned()), lot.least() == lot],
            ['3 rows of 3 signs', ('+-0', '+0-', '0+-'), False, True, 6, True])
        self.assertEqual(
            [list(Lot(2, ("+0", "0-")).layings()), list(Lot(3, ("+-0", "0+-")).uprights()),
             Lot(2, ("++", "+0")).least().rows],
            [['+-', '+0', '0-', '00'], ['+++', '---', '000'], ('+0',)])
        with self.assertRaises(InvalidLot):
            Lot(2, ("+0",)) | Lot(3)


class TableExamples(unittest.TestCase):
    def setUp(self):
        self.points = Table(4, ((1, 1, 1, 1), (0, 2, 0, 1), (0, 0, 2, 1)))

    def test_points(self):
        points = self.points
        self.assertEqual(
            [points.rank, points.signs, list(points.rounds), list(points.cuts)],
            [3, '++-0', ['0++-', '0--+'], ['+000', '-000', '0+-0', '0+0+', '0-+0', '0-0-', '00++', '00--']])
        self.assertEqual(
            [points.seen((1, -1, 0)), points.round_sum("0--+"), points.cut_weights("0+-0"), points.cut_weights("+000"),
             points.upright_table().rows],
            ['+-+0', (0, -1, -1, 2), (0, 1, -1), (2, -1, -1), ((0, -1, -1, 2),)])
        self.assertEqual(
            [determinant(()), determinant(((0, 2), (3, 5))), str(points), points[1]],
            [1, -6, 'table of 3 rows, 4 things', (0, 2, 0, 1)])

    def test_more(self):
        more = Table(4, ((3, 3, 3, 3), (0, 2, 0, 1), (3, 5, 3, 4), (5, 5, 1, 3)))
        self.assertEqual(
            [more.rank, more.signs, more.is_alike(self.points), more.cut_weights("0+-0")],
            [3, '++-0', True, (-5, 6, 0, 3)])

    def test_empty(self):
        empty = Table(2, ((0, 0),))
        self.assertEqual(
            [empty.rank, empty.signs, list(empty.rounds), list(empty.cuts), Table(0, ((), ())).signs,
             list(Table(1, ((5,),)).cuts)],
            [0, '+', ['+0', '-0', '0+', '0-'], [], '+', ['+', '-']])

    def test_refused(self):
        with self.assertRaises(Refused) as caught:
            self.points.round_sum("++++")
        self.assertEqual(caught.exception.reason, ('row',))


class RoundsExamples(unittest.TestCase):
    def setUp(self):
        self.small = Lot(3, ("++0", "--0", "0++", "0--"))
        self.trio = Lot(3, ("++0", "--0", "0++", "0--", "+0-", "-0+"))

    def test_papers(self):
        self.assertEqual(
            [rounds_paper(self.small), rounds_paper(self.trio),
             is_rounds_paper(self.small, ("taken", "0++", "--0", 1)), is_rounds_paper(self.small, ("rounds",))],
            [('taken', '++0', '0--', 1), ('rounds',), True, False])
        self.assertEqual(
            [rounds_paper(Lot(2, ("+0", "00"))), rounds_paper(Lot(2, ("+0", "-+"))),
             rounds_paper(Lot(2, ("+0", "-0", "++", "--"))), rounds_paper(Lot(0))],
            [('zero',), ('turned', '+0'), ('within', '+0', '++'), ('rounds',)])

    def test_taken_out(self):
        self.assertEqual(
            [taken_out(self.trio, "++0", "-0+", 0), taken_out(self.trio, "++0", "-0+", 0, kept=1),
             taken_out(self.small, "++0", "0--", 1), taken_out(self.small, "++0", "--0", 0)],
            ['0++', '0++', None, None])

    def test_bases_and_cuts(self):
        self.assertEqual(
            [bases_of(self.trio), rank_of(self.trio), list(cuts_of(self.trio)), bases_of(Lot(2)),
             list(cuts_of(Lot(2)))],
            [((0,), (1,), (2,)), 1, ['+-+', '-+-'], ((0, 1),), ['+0', '-0', '0+', '0-']])
        self.assertEqual(
            [list(cuts_of(cuts_of(self.trio))) == list(self.trio), bases_of(cuts_of(self.trio)),
             rank_of(Lot(1, ("+", "-")))],
            [True, ((0, 1), (0, 2), (1, 2)), 0])

    def test_refused(self):
        with self.assertRaises(Refused) as caught:
            taken_out(self.trio, "++0", "0++", 1)
        self.assertEqual(caught.exception.reason, ('apart', 1))
        with self.assertRaises(Refused) as caught:
            cuts_of(self.small)
        self.assertEqual(caught.exception.reason, ('taken', '++0', '0--', 1))


if __name__ == "__main__":
    unittest.main()
