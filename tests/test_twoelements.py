"""Tables over two elements: [0.23], [13.7] to [13.11] and the functions of the second part of stage 13."""

import unittest
from itertools import product

from sidesigns.errors import InvalidNumber, InvalidTable
from sidesigns.system.systems import System
from sidesigns.table.tables import Table, determinant
from sidesigns.web.twoelements import (cuts_over_two, is_signed_paper, reduced, rounds_over_two, signed_paper,
                                       signing_count)
from sidesigns.web.webs import Web
from support import Wrong, check_judged, error_of, has, is_between, is_plain, told_by
from worlds import all_things, lots

SEVEN = ((1, 0, 0, 1, 1, 0, 1), (0, 1, 0, 1, 0, 1, 1), (0, 0, 1, 0, 1, 1, 1))
# The opposite of SEVEN: its rows are upright to those of SEVEN.
OTHER_SEVEN = ((1, 1, 0, 1, 0, 0, 0), (1, 0, 1, 0, 1, 0, 0), (0, 1, 1, 0, 0, 1, 0), (1, 1, 1, 0, 0, 0, 1))


def all_tables(many, height):
    return [(many, rows) for rows in product(product((0, 1), repeat=many), repeat=height)]


SMALL = [table for many in range(5) for height in range(3) for table in all_tables(many, height)]
SMALL += [table for many in range(4) for table in all_tables(many, 3)] + all_tables(4, 3)[::11] + all_tables(4, 4)[4680::6553]


def picked(many, height, step):
    """A table that a plain rule picks."""
    return (many, tuple(tuple((at * at + row * (at + step) + at * step) % 5 % 2 for at in range(many)) for row in range(height)))


GREAT = [picked(many, height, step) for many, height in ((6, 3), (7, 4), (8, 4), (9, 4), (9, 5), (9, 9),
                                                         (9, 1)) for step in range(6)]
BARRED = [(7, SEVEN), (7, OTHER_SEVEN), (8, tuple(row + (row[0],) for row in SEVEN)),
          (9, tuple((0,) + row + (0,) for row in SEVEN)),
          (8, tuple((0,) + row for row in OTHER_SEVEN) + ((1,) * 8,)),
          (9, tuple(row + (0, 0) for row in SEVEN) + ((0,) * 7 + (1, 1),)),
          (7, SEVEN + (tuple(one ^ other for one, other in zip(SEVEN[0], SEVEN[1])),)), (7, SEVEN[::-1]),
          (8, ((1, 0, 0, 0, 0, 1, 1, 1), (0, 1, 0, 0, 1, 0, 1, 1), (0, 0, 1, 0, 1, 1, 0, 1), (0, 0, 0, 1, 1, 1, 1, 0)))]


def webbed(web):
    """The table over two elements whose rounds are the closed walks of a web."""
    return (len(web.ways), tuple(tuple(((first == place) + (last == place)) % 2 for first, last in web.ways)
                                 for place in range(web.places)))


WEBBED = [webbed(web) for web in (Web(4, ((0, 1), (0, 2), (0, 3), (1, 2), (1, 3), (2, 3))),
                                  Web(3, ((0, 1),) * 4 + ((1, 2),) * 5),
                                  Web(6, tuple(product(range(3), range(3, 6)))),
                                  Web(8, tuple((at, at + 1) for at in range(7)) + ((7, 0), (3, 3))),
                                  Web(5, ((0, 1), (0, 2), (0, 3), (0, 4), (1, 2), (1, 3), (1, 4), (2, 3), (2, 4))))]


def distinct(tables):
    """The reduced tables of some tables, each once."""
    return sorted({(many, reduced(many, rows)) for many, rows in tables})


def is_even(lot, rows):
    return all(sum(row[thing] for thing in lot) % 2 == 0 for row in rows)


def least_lots(found):
    return tuple(sorted(lot for lot in found if not any(set(other) < set(lot) for other in found)))


def plain_rounds(many, rows):
    """[13.7]."""
    return least_lots([lot for lot in all_things(many) if lot and is_even(lot, rows)])


def plain_cuts(many, rows):
    sums = {(0,) * many}
    for row in rows:
        sums |= {tuple((one + other) % 2 for one, other in zip(row, told)) for told in sums}
    return least_lots([tuple(at for at, one in enumerate(told) if one) for told in sums if 1 in told])


def is_reduced(table):
    """[13.8]."""
    if not all(1 in row for row in table):
        return False
    heads = [row.index(1) for row in table]
    return heads == sorted(set(heads)) and all(sum(row[head] for row in table) == 1 for head in heads)


def is_signing(table, value):
    """[13.9]."""
    if not isinstance(value, tuple) or len(value) != len(table):
        return False
    for row, told in zip(table, value):
        if not isinstance(told, tuple) or not all(is_plain(one) for one in told):
            return False
        if [abs(one) for one in told] != list(row):
            return False
    many = len(table[0]) if table else 0
    return all(abs(determinant(tuple(tuple(row[at] for at in lot) for row in value))) <= 1 for lot in lots(many, len(table)))


def is_link(value, rounds, cuts):
    if not isinstance(value, tuple) or len(value) != 3:
        return False
    for lot in value:
        if not isinstance(lot, tuple) or not all(is_plain(thing) for thing in lot):
            return False
    one, other, pair = value
    return one in rounds and other in cuts and len(pair) == 2 and pair == tuple(sorted(set(one) & set(other)))


def is_odd_lot(many, rows, value):
    """[13.10]."""
    rounds, cuts = plain_rounds(many, rows), plain_cuts(many, rows)
    if not isinstance(value, tuple) or len(value) % 2 == 0 or not all(is_link(link, rounds, cuts) for link in value):
        return False
    if list(value) != sorted(set(value)):
        return False
    for place in (0, 1):
        for lot in rounds + cuts:
            for thing in range(many):
                if len([link for link in value if link[place] == lot and thing in link[2]]) % 2:
                    return False
    return True


def is_right(many, rows, value):
    if not isinstance(value, tuple) or len(value) != 2:
        return False
    if value[0] == "signs":
        return is_signing(reduced(many, rows), value[1])
    return value[0] == "odd" and is_odd_lot(many, rows, value[1])


def signed_choices(table):
    """All tables of 0, 1 and -1 with 0 just where a table has 0."""
    many = len(table[0]) if table else 0
    entries = product(*[(0,) if one == 0 else (1, -1) for row in table for one in row])
    return [tuple(tuple(told[at * many:(at + 1) * many]) for at in range(len(table))) for told in entries]


class RoundsTest(unittest.TestCase):
    def test_rounds_and_cuts(self):
        """[13.7]."""
        for many, rows in SMALL + GREAT + BARRED + WEBBED:
            self.assertEqual(rounds_over_two(many, rows), plain_rounds(many, rows))
            self.assertEqual(cuts_over_two(many, rows), plain_cuts(many, rows))

    def test_reduced(self):
        """[13.8]: with the same even lots, and just one such table."""
        for many, rows in SMALL + GREAT + BARRED + WEBBED:
            table = reduced(many, rows)
            self.assertTrue(is_reduced(table))
            for lot in all_things(many):
                self.assertIs(is_even(lot, table), is_even(lot, rows))
            self.assertEqual(reduced(many, table), table)
        for many in range(4):
            found = {}
            for height in range(many + 1):
                for _, rows in all_tables(many, height):
                    lots_of_it = tuple(lot for lot in all_things(many) if is_even(lot, rows))
                    if is_reduced(rows):
                        self.assertEqual(found.setdefault(lots_of_it, rows), rows)
                    self.assertEqual(found.get(lots_of_it, reduced(many, rows)), reduced(many, rows))

    def test_rows_that_are_sums(self):
        for many, rows in [table for table in SMALL[::3] + GREAT + BARRED if len(table[1]) < 9]:
            sums = [(0,) * many, *rows, tuple(sum(row[at] for row in rows) % 2 for at in range(many))]
            for more in sums:
                self.assertEqual(reduced(many, rows + (more,)), reduced(many, rows))
                self.assertEqual(signing_count(many, (more,) + rows), signing_count(many, rows))
            self.assertEqual(reduced(many, rows[::-1]), reduced(many, rows))

    def test_without_rows_or_things(self):
        for many in range(10):
            self.assertEqual(reduced(many, ()), ())
            self.assertEqual(reduced(many, ((0,) * many,) * 9), ())
            self.assertEqual(rounds_over_two(many, ()), tuple((thing,) for thing in range(many)))
            self.assertEqual(cuts_over_two(many, ()), ())
            self.assertEqual((signed_paper(many, ()), signing_count(many, ())), (("signs", ()), 1))
        for height in range(10):
            rows = ((),) * height
            self.assertEqual((reduced(0, rows), rounds_over_two(0, rows), cuts_over_two(0, rows)), ((), (), ()))
            self.assertEqual((signed_paper(0, rows), signing_count(0, rows)), (("signs", ()), 1))

    def test_as_many_rows_as_things(self):
        for many in range(10):
            rows = tuple(tuple(1 if at >= row else 0 for at in range(many)) for row in range(many))
            expected = tuple(tuple(1 if at == row else 0 for at in range(many)) for row in range(many))
            self.assertEqual(reduced(many, rows), expected)
            self.assertEqual((rounds_over_two(many, rows), signing_count(many, rows)), ((), 2 ** many))


class SignedTest(unittest.TestCase):
    def check_signing(self, many, rows, table):
        """[13.9]: the system of a signing has the rounds and cuts of the table."""
        self.assertTrue(is_signing(reduced(many, rows), table))
        system = System.of_table(Table(many, table))
        for lot, expected in ((system.rounds, plain_rounds(many, rows)), (system.cuts, plain_cuts(many, rows))):
            self.assertEqual(tuple(sorted({tuple(sorted(has(row))) for row in lot})), expected)

    def test_papers(self):
        """[13.11]."""
        words = set()
        for many, rows in SMALL + GREAT + BARRED + WEBBED:
            word, told = signed_paper(many, rows)
            words.add(word)
            self.assertIs(is_signed_paper(many, rows, (word, told)), True)
            if word == "signs":
                self.check_signing(many, rows, told)
            else:
                self.assertTrue(is_odd_lot(many, rows, told))
                self.assertLessEqual(len(told), 2000)
            self.assertIs(word == "odd", signing_count(many, rows) == 0)
        self.assertEqual(words, {"signs", "odd"})

    def test_which_are_barred(self):
        for many, rows in BARRED:
            self.assertEqual((signed_paper(many, rows)[0], signing_count(many, rows)), ("odd", 0))
        for many, rows in SMALL + WEBBED:
            self.assertEqual(signed_paper(many, rows)[0], "signs")

    def test_all_signings(self):
        """[13.9], [13.11], over all choices of signs."""
        small = distinct(SMALL + all_tables(4, 3) + all_tables(4, 4)[::97])
        # All tables of at most four things, but for changes of their rows that keep the sums.
        self.assertEqual([len([one for one in small if one[0] == many]) for many in range(5)], [1, 2, 5, 16, 67])
        for many, table in small + [table for table in distinct(GREAT) if sum(map(sum, table[1])) <= 9]:
            rows = table[::-1]
            choices = signed_choices(table)
            right = [one for one in choices if is_signing(table, one)]
            self.assertEqual(signing_count(many, rows), len(right))
            self.assertEqual([one for one in choices if is_signed_paper(many, rows, ("signs", one))], right)
            self.check_that_all_come_of_one(many, right)

    def check_that_all_come_of_one(self, many, right):
        if len(right[0]) + many > 6:
            return
        found = {tuple(tuple(one * row_sign * sign for one, sign in zip(row, signs)) for row,
                       row_sign in zip(right[0], row_signs))
                 for row_signs in product((1, -1), repeat=len(right[0])) for signs in product((1, -1), repeat=many)}
        self.assertEqual(found, set(right))

    def test_counts_of_greater_tables(self):
        """Rows and columns can be multiplied by -1, but for one of them in each part that hangs together."""
        self.assertEqual(signing_count(9, ((1,) * 9,)), 2 ** 9)
        self.assertEqual([signing_count(*table) for table in WEBBED[:2]], [2 ** 8, 2 ** 9])
        many, rows = WEBBED[2]
        self.assertEqual(signing_count(many, rows), 2 ** (many + len(reduced(many, rows)) - 1))

    def test_signs_are_barred_by_odd_lots(self):
        """No choice of signs of SEVEN is a signing."""
        table = reduced(7, SEVEN)
        self.assertEqual(table, SEVEN)
        for one in signed_choices(table):
            self.assertIs(is_signed_paper(7, SEVEN, ("signs", one)), False)

    def test_odd_lots_judged(self):
        _, links = signed_paper(7, SEVEN)
        for at in range(len(links)):
            self.assertIs(is_signed_paper(7, SEVEN, ("odd", links[:at] + links[at + 1:])), False)
        self.assertIs(is_signed_paper(7, SEVEN, ("odd", links[::-1])), False)
        self.assertIs(is_signed_paper(7, SEVEN, ("odd", tuple(sorted(links + links + links)))), False)
        self.assertIs(is_signed_paper(7, SEVEN, ("odd", ())), False)
        # What both have, and what neither has, falls away from two odd lots and a third one.
        found = {tuple(sorted(renamed(links, order))) for order in own_orders()}
        right = [lot for lot in found if is_signed_paper(7, SEVEN, ("odd", lot))]
        self.assertEqual(len(right), len(found))
        one, other, third = sorted(found)[:3]
        joined = tuple(sorted(set(one) ^ set(other) ^ set(third)))
        self.assertIs(is_signed_paper(7, SEVEN, ("odd", joined)), True)
        self.assertIs(is_signed_paper(7, SEVEN, ("odd", tuple(sorted(set(one) ^ set(other))))), False)

    def test_common_things_that_are_no_links(self):
        """A round and a cut with none or four common things are none, even beside an odd lot."""
        _, links = signed_paper(7, SEVEN)
        others = [(one, other, tuple(sorted(set(one) & set(other)))) for one in plain_rounds(7,
                SEVEN) for other in plain_cuts(7, SEVEN)]
        others = [link for link in others if len(link[2]) != 2]
        self.assertEqual({len(link[2]) for link in others}, {0, 4})
        for link in others:
            for lot in ((link,), tuple(sorted(set(links) | {link})), tuple(sorted(set(links[1:]) | {link}))):
                self.assertIs(is_signed_paper(7, SEVEN, ("odd", lot)), False)
        for many, rows in SMALL[-1:] + WEBBED:
            for one, other in product(plain_rounds(many, rows), plain_cuts(many, rows)):
                common = tuple(sorted(set(one) & set(other)))
                self.assertIs(is_signed_paper(many, rows, ("odd", ((one, other, common),))), False)

    def test_no_odd_lot_where_signs_are(self):
        """Even lots of links are none, and links of other tables are none."""
        many, rows = WEBBED[0]
        links = all_links(many, rows)
        for lot in [(), links[:1], links[:3], links, links[::2]]:
            self.assertIs(is_signed_paper(many, rows, ("odd", tuple(lot))), False)
        self.assertIs(is_signed_paper(7, OTHER_SEVEN, signed_paper(7, SEVEN)), False)
        self.assertIs(is_signed_paper(7, SEVEN, signed_paper(7, OTHER_SEVEN)), False)

    def test_no_other_value(self):
        for many, rows in ((7, SEVEN), (3, ((1, 1, 0), (1, 0, 1))), (2, ()), (0, ()), (4, ((1, 1, 1, 1), (0, 1, 1, 0)))):
            paper = signed_paper(many, rows)
            check_judged(self, lambda value: is_signed_paper(many, rows, value), [paper],
                         lambda value: is_right(many, rows, value))


def all_links(many, rows):
    return tuple((one, other, tuple(sorted(set(one) & set(other)))) for one in plain_rounds(many, rows)
                 for other in plain_cuts(many, rows) if len(set(one) & set(other)) == 2)


def own_orders():
    """Some orders of the things that lead SEVEN to itself."""
    columns = [tuple(row[at] for row in SEVEN) for at in range(7)]
    changes = [((0, 1, 0), (0, 0, 1), (1, 0, 0)), ((1, 1, 0), (0, 1, 0), (0, 0, 1)), ((1, 0, 0), (0, 1, 1), (0, 0, 1)),
               ((0, 0, 1), (0, 1, 0), (1, 0, 0))]
    for change in changes:
        led = [tuple(sum(one * other for one, other in zip(row, column)) % 2 for row in change) for column in columns]
        yield tuple(columns.index(column) for column in led)


def renamed(links, order):
    return [tuple(tuple(sorted(order[thing] for thing in lot)) for lot in link) for link in links]


class ErrorsTest(unittest.TestCase):
    def test_wrong_arguments(self):
        def is_rows(value, many):
            return isinstance(value, tuple) and len(value) <= 9 and all(
                isinstance(row, tuple) and len(row) == many and all(is_between(one, 0, 1) for one in row) for row in value)
        kinds = ((InvalidNumber, lambda value: is_between(value, 0, 9)), (InvalidTable, lambda value: is_rows(value, 3)))
        for call in (reduced, rounds_over_two, cuts_over_two, signed_paper, signing_count, lambda many,
                     rows: is_signed_paper(many, rows, 0)):
            Wrong(call, (3, ((1, 1, 0), (0, 1, 1))), kinds).check(self)

    def test_limits(self):
        calls = (reduced, rounds_over_two, cuts_over_two, signed_paper, signing_count, lambda many,
                 rows: is_signed_paper(many, rows, 0))
        for call in calls:
            for many, rows in ((2, ((0, 1),) * 10), (2, ((0,),)), (2, ((0, 1, 1),)), (2, ((0, 2),)), (2, ((0, -1),)),
                               (2, ((0, True),)),
                               (2, ((False, 1),)), (2, ([0, 1],)), (2, [(0, 1)]), (0, ((0,),)), (2, ("01",)), (2, None),
                               (2, (None,))):
                self.assertEqual(error_of(lambda: call(many, rows)).__class__, InvalidTable)
            for many in (-1, 10, True, None, "2", 10 ** 60):
                self.assertEqual(told_by(error_of(lambda: call(many, None))), (InvalidNumber, many))
            call(9, ((1,) * 9,) * 9)

    def test_equal_calls(self):
        for many, rows in SMALL[::9] + GREAT[::3] + BARRED:
            self.assertEqual(signed_paper(many, rows), signed_paper(many, rows))


if __name__ == "__main__":
    unittest.main()
