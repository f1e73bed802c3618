"""One more thing: [0.22], [11.1] to [11.8] and the functions of stage 11."""

import unittest
from itertools import product

from sidesigns.errors import InvalidNumber, InvalidOperation, InvalidRow, InvalidSystem, Refused, TooMany
from sidesigns.more.putting import (all_ways, by_steps, is_line_paper, line_paper, line_ring, lines_of, put_in,
                                    signs_of_thing, through)
from sidesigns.system.systems import System
from sidesigns.table.tables import Table
from support import POOL, Wrong, curve, error_of, is_between, opposite, over, told_by
from worlds import COLUMNED, DRAWN, FIVE, FOUR, LINE, MIXED, PLANE, SIX, TINY, bent, eight, is_nowhere_apart, some_tables, of_tables

SOME = TINY + FOUR + FIVE[::12] + COLUMNED[::60] + [LINE, PLANE, MIXED]
FEW = [system for system in TINY + FOUR if len(system.cuts) <= 12]
RANK_THREE = [system for system in TINY + FOUR + FIVE[::7] + SIX[::3] if system.rank == 3]


def signings(system):
    """All signings [11.1], in the order of their signs at all cuts."""
    cuts = list(system.cuts)
    halves = [cut for cut in cuts if cut < opposite(cut)]
    found = []
    for signs in product("+-0", repeat=len(halves)):
        told = dict(zip(halves, signs))
        found.append({cut: told[cut] if cut in told else opposite(told[opposite(cut)]) for cut in cuts})
    return sorted(found, key=lambda one: tuple(one.values()))


def plain_lines(system):
    return tuple(sorted(flat for flat in system.flats() if system.rank_of(flat) == system.rank - 2))


def cuts_of_line(system, line):
    return [cut for cut in system.cuts if all(cut[thing] == "0" for thing in line)]


def is_ring(system, line, ring):
    """Whether a tuple is the ring of a line [11.3]."""
    cuts = cuts_of_line(system, line)
    if sorted(ring) != cuts or ring[0] != cuts[0]:
        return False
    size = len(ring)
    for at, cut in enumerate(ring):
        near = sorted(other for other in cuts if other != cut and is_nowhere_apart(cut, other))
        if near != sorted([ring[at - 1], ring[(at + 1) % size]]) or ring[(at + size // 2) % size] != opposite(cut):
            return False
    return ring[1] < ring[-1]


def is_right_ring(signs):
    """Whether one of the three things of [11.4] stands along a ring."""
    half = len(signs) // 2
    for at in range(len(signs)):
        turned = signs[at:] + signs[:at]
        if turned in ("0" * 2 * half, "+" * half + "-" * half, "0" + "+" * (half - 1) + "0" + "-" * (half - 1)):
            return True
    return False


def wrong_lines(system, signs):
    rings = {line: line_ring(system, line) for line in plain_lines(system)}
    return [line for line, ring in rings.items() if not is_right_ring("".join(signs[cut] for cut in ring))]


class LinesTest(unittest.TestCase):
    def test_lines(self):
        """[11.2]."""
        for system in SOME + SIX[::4] + [bent(), eight()]:
            self.assertEqual(lines_of(system), plain_lines(system))
            if system.rank < 2:
                self.assertEqual(lines_of(system), ())

    def test_rings(self):
        """[11.3]."""
        for system in SOME + SIX[::4] + [bent(), eight(), System.of_table(curve(9, 4))]:
            for line in lines_of(system):
                self.assertTrue(is_ring(system, line, line_ring(system, line)))

    def test_signings_judged(self):
        """[11.4], over all signings."""
        for system in FEW[::3]:
            lines = lines_of(system)
            for signs in signings(system):
                wrong = wrong_lines(system, signs)
                self.assertEqual(line_paper(system, signs), ("line", wrong[0]) if wrong else ("right",))
                self.assertIs(is_line_paper(system, signs, ("right",)), not wrong)
                for line in lines:
                    self.assertIs(is_line_paper(system, signs, ("line", line)), line in wrong)

    def test_the_order_of_a_passed_dict(self):
        for signs in signings(DRAWN)[::5]:
            other = dict(reversed(list(signs.items())))
            self.assertEqual(line_paper(DRAWN, other), line_paper(DRAWN, signs))
            if line_paper(DRAWN, signs) == ("right",):
                self.assertEqual(put_in(DRAWN, other), put_in(DRAWN, signs))

    def test_no_other_value(self):
        right = by_steps(PLANE, ((0, "+"), (1, "-")))
        wrong = {cut: "0" if cut in ("+0-00", "-0+00") else sign for cut, sign in right.items()}
        lines = wrong_lines(PLANE, wrong)
        self.assertEqual(lines, [(1,), (3,)])
        right_papers = [repr(("line", line)) for line in lines]
        for value in POOL:
            self.assertIs(is_line_paper(PLANE, right, value), value == ("right",))
            self.assertIs(is_line_paper(PLANE, wrong, value), False)
            for signs, told in product((right, wrong), (("line", value), ("right", value), (value, (1,)), ["right"],
                                                        ("line", (1,), value), ["line", (1,)], ("line", [1]))):
                self.assertIs(is_line_paper(PLANE, signs, told), signs is wrong and repr(told) in right_papers)
        self.assertIs(is_line_paper(PLANE, wrong, ("line", (1,))), True)
        self.assertIs(is_line_paper(PLANE, wrong, ("line", (True,))), False)
        bad = {"+-0": "+", "+0+": "-", "-+0": "-", "-0-": "+", "0++": "+", "0--": "-"}
        self.assertIs(is_line_paper(DRAWN, bad, ("line", ())), True)
        for value in (["line", ()], ("line", []), ("line",), ("line", (), ()), ("right",)):
            self.assertIs(is_line_paper(DRAWN, bad, value), False)


class PutTest(unittest.TestCase):
    def check_put(self, system, signs):
        """[11.5], [11.8]."""
        made = put_in(system, signs)
        many = system.many
        rows = {cut + sign for cut, sign in signs.items()}
        for line in lines_of(system):
            ring = line_ring(system, line)
            for at, cut in enumerate(ring):
                if {signs[cut], signs[ring[at - 1]]} == {"+", "-"}:
                    rows.add(over(cut, ring[at - 1]) + "0")
        self.assertEqual(list(made.cuts), sorted(rows))
        self.assertEqual((made.many, made.rank), (many + 1, system.rank))
        self.assertEqual(System(made.rounds), made)
        self.assertEqual(made.left_out((many,)), system)
        self.assertEqual(signs_of_thing(made, many), signs)
        self.assertIs(many in made.loops, set(signs.values()) <= {"0"})
        return made

    def test_all_right_signings(self):
        for system in FEW[::2]:
            for signs in signings(system):
                wrong = wrong_lines(system, signs)
                if wrong:
                    self.assertEqual(told_by(error_of(lambda: put_in(system, signs))), (Refused, ("line", wrong[0])))
                else:
                    self.check_put(system, signs)

    def test_all_systems_come_of_it(self):
        """[11.5]: the greatest thing, if it is no pillar, is put in in this way."""
        for system in TINY + FOUR + FIVE[::3] + SIX[::3] + [bent(), eight()]:
            last = system.many - 1
            if system.many and last not in system.pillars:
                left = system.left_out((last,))
                signs = signs_of_thing(system, last)
                self.assertEqual(line_paper(left, signs), ("right",))
                self.assertEqual(put_in(left, signs), system)

    def test_just_one_system(self):
        """[11.5]: over all systems of four things."""
        for system in [one for one in TINY if one.many == 3]:
            made = [put_in(system, signs) for signs in all_ways(system)]
            others = [other for other in FOUR if other.rank == system.rank and other.left_out((3,)) == system]
            self.assertEqual(len(made), len(others))
            self.assertTrue(all(other in made for other in others))

    def test_steps_put_in(self):
        for system in FIVE[::15] + SIX[::5] + [PLANE]:
            for steps in ((), ((1, "-"),), ((4, "+"), (0, "-"), (2, "+"))):
                self.check_put(system, by_steps(system, steps))

    def test_signs_of_each_thing(self):
        for system in SOME:
            for thing in range(system.many):
                if thing in system.pillars:
                    self.assertEqual(told_by(error_of(lambda: signs_of_thing(system, thing))), (Refused, ("pillar", thing)))
                else:
                    signs = signs_of_thing(system, thing)
                    left = system.left_out((thing,))
                    self.assertEqual(list(signs), list(left.cuts))
                    for cut, sign in signs.items():
                        self.assertIn(cut[:thing] + sign + cut[thing:], system.cuts)

    def test_nine_things(self):
        for system in (System.of_table(curve(9, 2)), System.free(9), ~System.free(9)):
            zeros = {cut: "0" for cut in system.cuts}
            self.assertEqual(told_by(error_of(lambda: put_in(system, zeros))), (TooMany, 9))
        system = System.of_table(curve(9, 2))
        wrong = {cut: "+" if cut == min(cut, opposite(cut)) else "-" for cut in system.cuts}
        while not wrong_lines(system, wrong):
            cut = next(iter(wrong))
            wrong[cut], wrong[opposite(cut)] = wrong[opposite(cut)], wrong[cut]
        self.assertEqual(told_by(error_of(lambda: put_in(system, wrong))), (Refused, ("line", ())))
        eight_things = System.of_table(curve(8, 3))
        self.check_put(eight_things, by_steps(eight_things, ((3, "+"), (5, "-"), (0, "+"))))

    def test_without_cuts(self):
        for many in range(9):
            system = ~System.free(many)
            self.assertEqual(list(all_ways(system)), [{}])
            self.assertEqual(put_in(system, {}), ~System.free(many + 1))
            self.assertEqual(by_steps(system, ()), {})


class StepsTest(unittest.TestCase):
    def test_by_steps(self):
        """[11.6]."""
        for system in SOME[::4] + [PLANE]:
            many = system.many
            pairs = list(product(range(many), "+-"))
            for steps in [()] + [(one,) for one in pairs] + [(one, other) for one, other in product(pairs, repeat=2)
                                                            if one[0] != other[0]]:
                signs = by_steps(system, steps)
                self.assertEqual(list(signs), list(system.cuts))
                for cut, sign in signs.items():
                    deciding = [(thing, told) for thing, told in steps if cut[thing] != "0"]
                    expected = "0" if not deciding else deciding[0][1] if cut[deciding[0][0]] == "+" \
                        else opposite(deciding[0][1])
                    self.assertEqual(sign, expected)
                self.assertEqual(line_paper(system, signs), ("right",))

    def test_through(self):
        """[11.7]."""
        for system in RANK_THREE + [PLANE]:
            cuts = list(system.cuts)
            for one, other in list(product(cuts, repeat=2))[::max(1, len(cuts) ** 2 // 40)]:
                self.check_through(system, one, other)
            self.check_through(system, cuts[0], cuts[0])
            self.check_through(system, cuts[0], opposite(cuts[0]))

    def check_through(self, system, one, other):
        signs = through(system, one, other)
        self.assertEqual(list(signs), list(system.cuts))
        self.assertEqual((signs[one], signs[other]), ("0", "0"))
        self.assertNotEqual(set(signs.values()), {"0"})
        self.assertEqual(line_paper(system, signs), ("right",))

    def test_through_of_nine_things(self):
        for system in [bent(), System.of_table(curve(9, 3))] + of_tables(some_tables(9, 3, 9)[:4]):
            if system.rank == 3:
                cuts = list(system.cuts)
                for one, other in list(product(cuts, repeat=2))[::max(1, len(cuts) ** 2 // 60)]:
                    self.check_through(system, one, other)

    def test_all_ways(self):
        for system in FEW[::2]:
            expected = [signs for signs in signings(system) if not wrong_lines(system, signs)]
            found = list(all_ways(system))
            self.assertEqual(found, expected)
            for signs in found:
                self.assertEqual(list(signs), list(system.cuts))

    def test_thirty_cuts_and_more(self):
        six = System.of_table(curve(6, 3))
        self.assertEqual(len(six.cuts), 30)
        found = [tuple(signs.values()) for signs in all_ways(six)]
        self.assertEqual(found, sorted(set(found)))
        self.assertEqual(len(found), 547)
        for system in (System.of_table(curve(7, 6)), System.of_table(curve(7, 3)), bent()):
            self.assertGreater(len(system.cuts), 30)
            self.assertEqual(told_by(error_of(lambda: next(all_ways(system)))), (TooMany, 15))
        self.assertEqual(len(list(all_ways(System.free(7)))), 3 ** 7)


class WrongArguments(unittest.TestCase):
    def is_system(self, value):
        return isinstance(value, System)

    def test_systems_lines_and_things(self):
        system = (InvalidSystem, self.is_system)
        Wrong(lines_of, (LINE,), (system,)).check(self)
        Wrong(all_ways, (LINE,), (system,)).check(self)
        three = System.free(3)
        Wrong(line_ring, (three, (1,)), (system, (InvalidOperation, lambda value: value in ((0,), (1,), (2,)) and
                                                  type(value[0]) is int))).check(self)
        Wrong(signs_of_thing, (DRAWN, 1), (system, (InvalidNumber, lambda value: is_between(value, 0, 2)))).check(self)
        for line in ((), (0, 1), (3,), [1], (True,), None):
            self.assertEqual(error_of(lambda: line_ring(three, line)).__class__, InvalidOperation)
        for other in (System.free(1), System.free(0), ~System.free(3)):
            self.assertEqual(error_of(lambda: line_ring(other, ())).__class__, InvalidOperation)

    def test_signings(self):
        right = {"+": "-", "-": "+"}
        one = System.free(1)

        def is_signing(value):
            return isinstance(value, dict) and sorted(value, key=repr) == ["+", "-"] and all(
                sign in ("+", "-", "0") for sign in value.values()) and value["+"] == opposite(value["-"])

        for call in (line_paper, put_in, lambda *told: is_line_paper(*told, ("right",))):
            Wrong(call, (one, right), ((InvalidSystem, self.is_system), (InvalidOperation, is_signing))).check(self)
            for signs in ({}, {"+": "+"}, {"+": "+", "-": "+"}, {"+": "0", "-": "+"}, {"+": "", "-": ""}, {"+": "+-", "-": "-+"},
                          {"+": "x", "-": "x"}, {"+": 1, "-": -1}, {"+": None, "-": None}, {"+": "+", "-": "-", "0": "0"},
                          {"+": "+", "0": "-"}, {0: "+", 1: "-"}, {"+": ("+",), "-": ("-",)}, [("+", "+"), ("-", "-")],
                          {"+": ["+"], "-": ["-"]}, {"+": {}, "-": {}}, {"++": "+", "--": "-"}):
                self.assertEqual(error_of(lambda: call(one, signs)).__class__, InvalidOperation, signs)
            self.assertEqual(error_of(lambda: call(~System.free(2), {"+": "+", "-": "-"})).__class__, InvalidOperation)
            self.assertIsNone(error_of(lambda: call(~System.free(2), {})))

    def test_steps(self):
        def are_steps(value):
            return isinstance(value, tuple) and all(isinstance(one, tuple) and len(one) == 2 and is_between(one[0], 0, 2)
                                                    and one[1] in ("+", "-") for one in value) \
                and len({one[0] for one in value}) == len(value)

        Wrong(by_steps, (DRAWN, ((0, "+"), (2, "-"))), ((InvalidSystem, self.is_system), (InvalidOperation, are_steps))) \
            .check(self)
        for steps in (((0, "+"), (0, "-")), ((0, "0"),), ((3, "+"),), ((True, "+"),), ((0, "+", "-"),), ([0, "+"],), [(0, "+")],
                      ((0,),), ("0+",), ((0, ""),), ((0, "+-"),), ((0, None),), (0, "+")):
            self.assertEqual(error_of(lambda: by_steps(DRAWN, steps)).__class__, InvalidOperation)

    def test_through(self):
        system = System.free(3)

        def is_cut(value):
            return isinstance(value, str) and value in system.cuts.rows

        Wrong(through, (system, "+00", "0+0"), ((InvalidSystem, self.is_system), (InvalidRow, is_cut), (InvalidRow, is_cut))) \
            .check(self)
        for other in (DRAWN, System.free(2), System.free(4), System.free(1)):
            cut = other.cuts.rows[0]
            self.assertEqual(told_by(error_of(lambda: through(other, cut, cut))), (Refused, ("rank",)))
            self.assertEqual(error_of(lambda: through(other, cut, "0" * other.many)).__class__, InvalidRow)
            self.assertEqual(error_of(lambda: through(other, "x", cut)).__class__, InvalidRow)

    def test_nothing_changes(self):
        for system in FEW[::7]:
            signs = by_steps(system, tuple((thing, "+") for thing in range(system.many)))
            told, before = dict(signs), (system.signs, system.cuts.rows)
            results = [(lines_of(system), line_paper(system, signs), put_in(system, signs), list(all_ways(system)),
                        [line_ring(system, line) for line in lines_of(system)]) for _ in range(2)]
            self.assertEqual(results[0], results[1])
            self.assertEqual((signs, (system.signs, system.cuts.rows)), (told, before))
        first = by_steps(DRAWN, ())
        first.clear()
        self.assertEqual(by_steps(DRAWN, ()), {cut: "0" for cut in DRAWN.cuts})
        for signs in all_ways(DRAWN):
            signs.clear()
        self.assertEqual(len(list(all_ways(DRAWN))), 13)
        self.assertEqual(Table(3, ((1, 0, 1), (0, 1, 1))).cuts, DRAWN.cuts)


if __name__ == "__main__":
    unittest.main()
