"""Strings of values: [17.1] to [17.5] and both functions of stage 17."""

import unittest
from itertools import permutations, product
from math import comb

from sidesigns.best.programs import Program
from sidesigns.desk.desk import Desk
from sidesigns.errors import InvalidOperation, ParseError
from sidesigns.rows.rows import Lot
from sidesigns.system.judging import signs_paper, system_of_signs
from sidesigns.system.systems import System
from sidesigns.table.tables import Table
from sidesigns.text.strings import read_value, write_value
from sidesigns.web.webs import Web
from support import POOL, curve, error_of, lots_of_rows, rows_of, small_tables, told_by
from worlds import CURVES, FIVE, FOUR, LINE, MIXED, PLANE, TINY, bent, eight, strings

MOST = 10 ** 60 - 1
LOTS = [lot for many in range(3) for lot in lots_of_rows(many, range(4))] + [Lot(9), Lot(9, ("+" * 9, "0" * 9)),
                                                                             Lot(7, tuple(rows_of(7))),
                                                                           Lot(0, ("",))]
TABLES = [table for many, height in ((0, 0), (0, 3), (1, 0), (1, 2), (2, 1), (2, 2), (3, 1)) for table in small_tables(many,
        height, -1, 1)]
TABLES += [Table(2, ((MOST, -MOST), (0, 10 ** 59))), Table(0, ((),) * 9),
           Table(9, ((1, -20, 300, 0, -1, 7, 10, 100, -1000),) * 9), curve(6, 4)]
SYSTEMS = TINY + FOUR + FIVE[::9] + CURVES + [LINE, MIXED, PLANE, bent(), eight()]
WEBS = [Web(places, ways) for places in range(4) for size in range(3) for ways in product(product(range(places), repeat=2),
                                                                                          repeat=size)]
WEBS += [Web(8, ((7, 0), (3, 3)) * 4 + ((0, 7),)), Web(8, ())]


def plain_string(value):
    """[17.1]."""
    if isinstance(value, Lot):
        lines = ["lot " + str(value.many)] + list(value.rows)
    elif isinstance(value, Table):
        lines = ["table " + str(value.many)] + [" ".join(map(str, row)) for row in value.rows]
    elif isinstance(value, Web):
        lines = ["web " + str(value.places)] + [f"{first} {last}" for first, last in value.ways]
    else:
        lines = [f"system {value.many} {value.rank} {value.signs}"]
    return "\n".join(lines)


class ThereAndBackTest(unittest.TestCase):
    def test_all_values(self):
        """[17.1], [17.5]."""
        for value in LOTS + TABLES + SYSTEMS + WEBS:
            string = write_value(value)
            self.assertEqual(string, plain_string(value))
            found = read_value(string)
            self.assertIs(found.__class__, value.__class__)
            self.assertEqual(found, value)
            self.assertEqual(write_value(found), string)

    def test_orders_of_the_rows_of_lots(self):
        """[17.3]."""
        for lot in [one for one in LOTS if 2 <= len(one) <= 4]:
            for rows in permutations(lot.rows):
                for more in ((), rows[:1], rows):
                    string = "\n".join([f"lot {lot.many}", *rows, *more])
                    self.assertEqual(read_value(string), lot)
                    self.assertEqual(write_value(read_value(string)), plain_string(lot))
        self.assertEqual(read_value("lot 0\n\n\n"), Lot(0, ("",)))

    def test_system_parts(self):
        for system in SYSTEMS[::5]:
            found = read_value(write_value(system))
            self.assertEqual((found.rounds, found.cuts, found.rank), (system.rounds, system.cuts, system.rank))

    def test_joined_with_changes(self):
        """What changes tell of systems stands in their strings."""
        for system in FOUR[::7]:
            other = read_value(write_value(~system.turned_at((0, 2)).renamed((3, 1, 0, 2))))
            self.assertEqual((~other).renamed((2, 1, 3, 0)).turned_at((0, 2)), system)


class WrongLinesTest(unittest.TestCase):
    def check(self, string, index):
        error = error_of(lambda: read_value(string))
        self.assertEqual(told_by(error), (ParseError, index), string)

    def test_no_strings(self):
        for value in POOL:
            if not isinstance(value, str):
                self.check(value, None)
            elif not value.startswith(("lot ", "system ")):
                self.check(value, 0)

    def test_first_lines(self):
        for line in ("", " ", "lot", "lot ", " lot 3", "lot 3 ", "lot  3", "lot 3 3", "lot3", "Lot 3", "LOT 3", "lots 3",
                     "lot 10", "lot -1",
                     "lot 03", "lot +3", "lot -0", "lot x", "lot 3.0", "lot 1e0", "table", "table 10", "table 00",
                     "table 2 2", "tables 2",
                     "table -0", "table 9 ", "web", "web 9", "web -1", "web 08", "web 3 ", "web 3 0-1", "system", "system 2",
                     "system 2 1",
                     "system 2 1 ", "system 2 1  ++", "system 2 1 ++ ", "system 02 1 ++", "system 2 01 ++", "system 2 3 ++",
                     "system 2 -1 ++",
                     "system 10 0 +", "system -1 0 +", "system 2 1 +", "system 2 1 +++", "system 2 1 -+", "system 2 1 00",
                     "system 2 1 +x",
                     "system 2 1 0-", "system 0 0", "system 0 0 -", "system 0 0 0", "desk 3", "program 3", "x", "+-0", "3",
                     "lot\t3", "lot 3\r",
                     "lot 9" + "9" * 59, "lot 3" + "0" * 60, "lot " + "9" * 2000, "system 4 2 ++0+-+",
                     "system " + "9" * 100 + " 2 +"):
            for behind in ("", "\n", "\n+-0", "\n1 2\nx", "\n\n\n"):
                self.check(line + behind, 0)

    def test_each_place(self):
        """A wrong line at each place, other wrong ones behind it."""
        cases = (("lot 3", ["+-0", "000", "+-0", "---", "0+0"], ["+-", "+-0+", "", "+-x", " +-0", "+-0 ", "+ -0", "111"]),
                 ("lot 0", ["", "", ""], ["+", " ", "0"]),
                 ("table 2", ["1 2", "-30 0", "0 0", "7 -1"],
                  ["1", "1 2 3", "", "1  2", " 1 2", "1 2 ", "01 2", "1 -0", "+1 2", "1 x", "1,2", "1 2.0",
                                                              "--1 2", "1 -", "- 1", "1 -01", "1 0" + "1" * 60,
                   "1 1" + "0" * 60, "-1" + "0" * 60 + " 1"]),
                 ("table 1", ["1", "0", "-1"], ["", " ", "1 1", "00", "-", "-0"]),
                 ("table 0", ["", ""], ["0", " ", "1"]),
                 ("web 3", ["0 1", "2 2", "1 0", "0 1"],
                  ["0", "0 1 2", "", "0 3", "-1 0", "0  1", "0 1 ", " 0 1", "00 1", "+0 1", "0-1", "x 1", "0 -0",
                                                         "0 " + "9" * 60, "0 " + "9" * 61]),
                 ("web 0", [], ["0 0", "", " "]))
        for head, lines, wrong in cases:
            self.assertEqual(read_value("\n".join([head, *lines])).__class__.__name__.lower(), head.split(" ")[0])
            for bad in wrong:
                for at in range(len(lines) + 1):
                    for behind in ([], [bad], ["x", "y"], [wrong[-1], lines[0] if lines else "z"]):
                        self.check("\n".join([head, *lines[:at], bad, *lines[at:], *behind]), at + 1)

    def test_lines_behind_a_system(self):
        for system in TINY + [LINE, PLANE]:
            for behind in ("", "+", "system 0 0 +", " ", "x\ny"):
                self.check(write_value(system) + "\n" + behind, 1)

    def test_newline_at_the_end(self):
        self.check("lot 2\n+0\n", 2)
        self.check("lot 2\n", 1)
        self.check("table 2\n", 1)
        self.check("table 2\n1 2\n", 2)
        self.check("web 2\n", 1)
        self.check("web 2\n0 1\n", 2)
        self.check("system 2 1 ++\n", 1)
        self.assertEqual(read_value("lot 0\n"), Lot(0, ("",)))
        self.assertEqual(read_value("table 0\n"), Table(0, ((),)))

    def test_too_many_lines(self):
        for many in (0, 1, 2):
            row = " ".join(["5"] * many)
            self.assertEqual(len(read_value("\n".join([f"table {many}"] + [row] * 9))), 9)
            for last in (row, "x", ""):
                self.check("\n".join([f"table {many}"] + [row] * 9 + [last]), 10)
                self.check("\n".join([f"table {many}"] + [row] * 11 + [last]), 10)
            self.check("\n".join([f"table {many}"] + [row] * 4 + ["x"] + [row] * 9), 5)
        self.assertEqual(len(read_value("web 2" + "\n0 1" * 9)), 9)
        self.check("web 2" + "\n0 1" * 10, 10)
        self.check("web 2" + "\n0 1" * 5 + "\n0 2" + "\n0 1" * 6, 6)
        many = "\n".join(["lot 5"] + rows_of(5) * 3)
        self.assertEqual(len(read_value(many)), 3 ** 5)

    def test_all_strings_of_signs(self):
        """[17.4]: the line of a system is right just where its signs are those of a system."""
        for many in range(4):
            for rank in range(many + 1):
                for text in strings(many, rank):
                    string = f"system {many} {rank} {text}"
                    if signs_paper(many, rank, text) == ("signs",):
                        self.assertEqual(read_value(string), system_of_signs(many, rank, text))
                    else:
                        self.check(string, 0)
        for text in strings(4, 2)[::5]:
            error = error_of(lambda: read_value("system 4 2 " + text))
            self.assertIs(error is None, signs_paper(4, 2, text) == ("signs",))

    def test_wrong_lengths_of_signs(self):
        for many in range(10):
            for rank in range(many + 1):
                size = comb(many, rank)
                for other in {size - 1, size + 1, 0} - {size}:
                    self.check(f"system {many} {rank} " + "+" * other, 0)

    def test_numbers(self):
        """[17.2]: sixty digits are the most."""
        for number in (MOST, -MOST, 0, 5, -5, 10 ** 59):
            self.assertEqual(read_value(f"table 1\n{number}"), Table(1, ((number,),)))
        for number in (10 ** 60, -10 ** 60, 10 ** 99, -10 ** 2000):
            self.check(f"table 1\n{number}", 1)
        self.check("table 1\n0" + str(MOST)[1:], 1)
        for number in range(-30, 31):
            for text in (f"0{number}", f"+{number}", f"{number}.", f" {number}", f"{number} ", f"-{number}", f"{number}_0"):
                right = text == str(-number) and number > 0
                if right:
                    self.assertEqual(read_value(f"table 1\n{text}"), Table(1, ((-number,),)))
                else:
                    self.check(f"table 1\n{text}", 1)


class WriteErrorsTest(unittest.TestCase):
    def test_other_values(self):
        for value in [*POOL, Desk(2), Program(LINE, 0, 1), Lot, System]:
            if not isinstance(value, (Lot, Table, System, Web)):
                self.assertEqual(error_of(lambda: write_value(value)).__class__, InvalidOperation)
            else:
                self.assertEqual(write_value(value), plain_string(value))

    def test_long_integers(self):
        long = Table(4, ((MOST, 10 ** 59 + 3, 7 ** 70, 1), (10 ** 58 + 1, MOST - 4, 3, 9), (5, 1, 1, MOST - 8))).upright_table()
        self.assertTrue(any(abs(value) >= 10 ** 60 for value in long.rows[0]))
        self.assertEqual(error_of(lambda: write_value(long)).__class__, InvalidOperation)
        short = curve(5, 3).upright_table()
        self.assertEqual(read_value(write_value(short)), short)

    def test_values_stay(self):
        for value in (LOTS[9], TABLES[5], LINE, WEBS[9]):
            self.assertEqual(write_value(value), write_value(value))
            self.assertEqual(read_value(write_value(value)), value)


if __name__ == "__main__":
    unittest.main()
