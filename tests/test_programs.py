"""Programs: [0.21], [10.1] to [10.9] and stage 10."""

import unittest
from fractions import Fraction
from itertools import permutations, product

from sidesigns.best.programs import Program, table_answer
from sidesigns.errors import InvalidNumber, InvalidOperation, InvalidProgram, InvalidSystem, InvalidTable, TooMany
from sidesigns.system.systems import System
from sidesigns.table.tables import Table
from support import POOL, Wrong, curve, error_of, has, is_between, is_things, rows_of, small_tables, told_by
from worlds import COLUMNED, FIVE, FOUR, LINE, MIXED, PLANE, TINY, bent, eight, plain_views, some_tables

SOME = TINY + FOUR[::2] + FIVE[::15] + COLUMNED[::90] + [LINE, MIXED]


def programs(systems):
    return [Program(system, far, goal) for system in systems for far, goal in permutations(range(system.many), 2)]


SMALL = programs(SOME)
LARGE = [Program(system, far, goal) for system in (PLANE, bent(), eight(), System.of_table(curve(9, 4)), System.free(9),
                                                   ~System.free(9), PLANE + LINE)
         for far, goal in list(permutations(range(system.many), 2))[::3]]


def against_none(program, row):
    return all(row[side] != "-" for side in program.sides)


def is_feasible(program, row):
    return row[program.far] == "+" and against_none(program, row)


def answers(program):
    """All answers [10.2]."""
    system, far, goal = program.system, program.far, program.goal
    views = plain_views(system)
    for row in system.rounds:
        if row[far] == "+" and row[goal] == "0" and against_none(program, row):
            yield ("none", row)
    for view in views:
        if is_feasible(program, view):
            for row in views:
                if row[far] == "0" and row[goal] == "+" and against_none(program, row):
                    yield ("endless", view, row)
            for row in system.rounds:
                if row[goal] == "+" and against_none(program, row):
                    if all(row[side] == "0" for side in program.sides if view[side] == "+"):
                        yield ("best", view, row)


class ProgramTest(unittest.TestCase):
    def test_properties(self):
        for program in SMALL:
            system, far, goal = program.system, program.far, program.goal
            self.assertEqual(program.sides, tuple(one for one in range(system.many) if one not in (far, goal)))
            self.assertEqual(str(program), f"program of {system.many} things: far {far}, goal {goal}")
            again = Program(system, far, goal)
            self.assertEqual((again.system, again.far, again.goal), (system, far, goal))
        for name in ("system", "far", "goal", "sides"):
            with self.assertRaises(AttributeError):
                setattr(SMALL[0], name, 1)

    def test_feasible(self):
        for program in SMALL:
            rows = [row for row in plain_views(program.system) if is_feasible(program, row)]
            self.assertEqual(list(program.feasible()), rows)
            self.assertEqual(program.feasible().many, program.system.many)
        self.assertEqual(told_by(error_of(Program(System.free(9), 0, 1).feasible)), (TooMany, 7000))
        self.assertEqual(len(Program(System.free(8), 0, 1).feasible()), 2 ** 6 * 3)

    def test_answers(self):
        """[10.2], [10.3]: there is one, of one word, and all of them are accepted."""
        for program in SMALL:
            found = list(answers(program))
            self.assertEqual(len({one[0] for one in found}), 1)
            self.assertIn(program.answer(), found)
            for one in found[:40]:
                self.assertIs(program.is_answer(one), True)

    def test_judged(self):
        for program in SMALL[::23]:
            found = set(answers(program))
            rows = rows_of(program.system.many)[::1 if program.system.many < 4 else 5]
            for row in rows:
                self.assertIs(program.is_answer(("none", row)), ("none", row) in found)
            for word, row, other in product(("endless", "best"), rows, rows):
                self.assertIs(program.is_answer((word, row, other)), (word, row, other) in found)

    def test_no_other_value(self):
        from_table = Program(System.of_table(Table(4, ((1, 0, 3, -1), (0, 1, -1, 1)))), 0, 3)
        self.assertIs(from_table.is_answer(("best", "++0+", "-0++")), True)
        for value in POOL:
            self.assertIs(from_table.is_answer(value), False)
            for told in (("none", value), ("best", value, "-0++"), ("best", "++0+", value), ("endless", value, value),
                         (value, "++0+", "-0++"), ["best", "++0+", "-0++"], ("best", "++0+", "-0++", value),
                         ("best", "++0+"), ("none", "++0+", value)):
                self.assertIs(from_table.is_answer(told), False)

    def test_larger(self):
        for program in LARGE:
            answer = program.answer()
            self.assertIs(program.is_answer(answer), True)
            self.assertEqual(program.answer(), answer)
            for word in ("none", "endless", "best"):
                if word != answer[0]:
                    self.assertIs(program.is_answer((word,) + answer[1:]), False)

    def test_best_views(self):
        """[10.4]."""
        for program in SMALL[::2]:
            views = plain_views(program.system)
            best = {one[1] for one in answers(program) if one[0] == "best"}
            for view in views:
                if is_feasible(program, view):
                    ahead = [row for row in views if row[program.far] == "0" and row[program.goal] == "+" and all(
                        row[side] != "-" for side in program.sides if view[side] == "0")]
                    self.assertIs(view in best, not ahead)
            self.assertLessEqual(len({view[program.goal] for view in best}), 1)

    def test_loops_and_pillars(self):
        """[10.5]."""
        for program in SMALL + LARGE:
            word, system = program.answer()[0], program.system
            if program.far in system.loops:
                self.assertEqual(word, "none")
            if program.far in system.pillars:
                self.assertNotEqual(word, "none")
            if program.goal in system.loops:
                self.assertNotEqual(word, "endless")
            if program.goal in system.pillars:
                self.assertNotEqual(word, "best")

    def test_opposite(self):
        """[10.6]."""
        for program in SMALL + LARGE[::4]:
            other = program.opposite()
            self.assertEqual((other.system, other.far, other.goal), (~program.system, program.goal, program.far))
            self.assertEqual(other.opposite(), program)
            word, second = program.answer()[0], other.answer()[0]
            self.assertIs(word == "best", second == "best")
            if word == "endless":
                self.assertEqual(second, "none")
            if word == "none":
                self.assertIn(second, ("none", "endless"))
        for program in SMALL[::7]:
            for answer in answers(program):
                if answer[0] == "best" and answer[1] in program.system.cuts:
                    self.assertIs(program.opposite().is_answer(("best", answer[2], answer[1])), True)

    def test_equality(self):
        for one, other in product(SMALL[::19], repeat=2):
            same = (one.system == other.system) and (one.far, one.goal) == (other.far, other.goal)
            self.assertIs(one == other, same)
            self.assertIs(one != other, not same)
        for value in POOL:
            program = Program(System.free(2), 0, 1)
            same = isinstance(value, Program) and (value.system, value.far, value.goal) == (System.free(2), 0, 1)
            self.assertIs(program == value, same)
            self.assertIs(value != program, not same)


class CrossingsTest(unittest.TestCase):
    def test_starts(self):
        for program in SMALL + LARGE:
            system = program.system
            starts = tuple(base for base in system.bases if program.far in base and program.goal not in base)
            self.assertEqual(program.starts(), starts)
            self.assertIs(starts == (), program.far in system.loops or program.goal in system.pillars)

    def test_crossings(self):
        """[10.7], [10.8], step by step."""
        for program in SMALL + LARGE:
            for start in program.starts()[::1 if program.system.many < 6 else 11]:
                bases, end = program.crossings(start)
                self.assertEqual(bases[0], start)
                self.assertEqual(len(set(bases)), len(bases))
                for base, after in zip(bases, bases[1:]):
                    self.assertEqual(self.crossed(program, base), after)
                self.assertEqual(self.crossed(program, bases[-1]), end)
                word = program.answer()[0]
                if end[0] == "ray":
                    self.assertIn(word, ("none", "endless"))
                else:
                    self.assertEqual(end[0], word)
                    self.assertIs(program.is_answer(end), True)

    def crossed(self, program, base):
        """The next base, or the end, in the words of [10.7]."""
        system = program.system
        outside = set(range(system.many)) - set(base)
        view = self.only(system.cuts, program.far, outside)
        row = self.only(system.rounds, program.goal, set(base))
        wrong = [side for side in program.sides if (row if side in base else view)[side] == "-"]
        if not wrong:
            return ("best", view, row)
        least = min(wrong)
        if least not in base:
            found = self.only(system.rounds, least, set(base))
            self.assertEqual(found[program.far], "+")
            against = [side for side in program.sides if side in base and found[side] == "-"]
            return tuple(sorted(set(base) - {min(against)} | {least})) if against else ("none", found)
        found = self.only(system.cuts, least, outside)
        self.assertEqual((found[program.far], found[program.goal]), ("0", "+"))
        against = [side for side in program.sides if side in outside and found[side] == "-"]
        return tuple(sorted(set(base) - {least} | {min(against)})) if against else ("ray", found)

    def only(self, rows, thing, others):
        found = [row for row in rows if row[thing] == "+" and has(row) <= others | {thing}]
        self.assertEqual(len(found), 1)
        return found[0]

    def test_wrong_bases(self):
        program = Program(LINE, 0, 3)

        def is_start(value):
            return is_things(value, 4) and value in ((0, 1), (0, 2))

        self.assertEqual(program.starts(), ((0, 1), (0, 2)))
        Wrong(program.crossings, ((0, 1),), ((InvalidOperation, is_start),)).check(self)
        for base in ((0, 3), (1, 2), (1, 0), (0, True), [0, 1], (0,), ()):
            self.assertEqual(error_of(lambda: program.crossings(base)).__class__, InvalidOperation)
        for base in ((), (0,), (0, 1)):
            self.assertEqual(error_of(lambda: Program(System.free(2), 0, 1).crossings(base)).__class__, InvalidOperation)


def plain_table_answer(table, far, goal):
    """The answer over all corners, in fractions."""
    system = System.of_table(table)
    word = next(answers(Program(system, far, goal)))[0]
    if word != "best":
        return (word,)
    values = []
    for cut in system.cuts:
        if cut[far] == "+" and all(cut[side] != "-" for side in range(table.many) if side not in (far, goal)):
            weights = table.cut_weights(cut)
            numbers = [sum(weight * row[thing] for weight, row in zip(weights, table.rows)) for thing in (goal, far)]
            values.append(Fraction(*numbers))
    return ("best", max(values).numerator, max(values).denominator)


class TableTest(unittest.TestCase):
    def test_answers(self):
        """[10.9]."""
        tables = some_tables(4, 2, 3) + some_tables(4, 3, 5) + some_tables(5, 2, 7)[:20] + small_tables(3, 1, -1, 2)
        words = set()
        for table in tables:
            for far, goal in permutations(range(table.many), 2):
                told = table_answer(table, far, goal)
                self.assertEqual(told, plain_table_answer(table, far, goal))
                answer = Program(System.of_table(table), far, goal).answer()
                self.assertEqual(answer[0], told[0])
                words.add(told[0])
                if told[0] == "best":
                    self.assertGreaterEqual(told[2], 1)
                    sign = "+" if told[1] > 0 else "-" if told[1] < 0 else "0"
                    self.assertEqual(answer[1][goal], sign)
        self.assertEqual(words, {"none", "endless", "best"})

    def test_against_values(self):
        """The greatest number is not passed by any weights that are right."""
        for table in some_tables(4, 2, 3):
            for far, goal in ((0, 3), (2, 1)):
                told = table_answer(table, far, goal)
                found = []
                for weights in product(range(-4, 5), repeat=2):
                    row = [sum(weight * one[thing] for weight, one in zip(weights, table.rows)) for thing in range(4)]
                    if row[far] > 0 and all(row[side] >= 0 for side in range(4) if side not in (far, goal)):
                        found.append(Fraction(row[goal], row[far]))
                if told[0] == "none":
                    self.assertEqual(found, [])
                elif told[0] == "best":
                    self.assertLessEqual(max(found, default=Fraction(*told[1:])), Fraction(*told[1:]))

    def test_zero_and_long_integers(self):
        self.assertEqual(table_answer(Table(2, ((1, 0),)), 0, 1), ("best", 0, 1))
        self.assertEqual(table_answer(Table(2, ((-6, 4),)), 0, 1), ("best", -2, 3))
        self.assertEqual(table_answer(Table(2, ()), 0, 1), ("none",))
        big = 10 ** 60 - 1
        self.assertEqual(table_answer(Table(2, ((big, big - 1),)), 0, 1), ("best", big - 1, big))
        table = Table(3, ((big, big - 4, 1), (3, big - 1, big - 2))).upright_table()
        self.assertEqual(table_answer(table, 0, 1), plain_table_answer(table, 0, 1))

    def test_wrong_arguments(self):
        self.check_ends(Program, System.free(3), InvalidSystem)
        self.check_ends(table_answer, Table(3, ((1, 2, 3),)), InvalidTable)

    def check_ends(self, call, first, kind):
        self.assertIsNone(error_of(lambda: call(first, 0, 2)))
        for value in [one for one in POOL if not isinstance(one, first.__class__)]:
            self.assertEqual(error_of(lambda: call(value, value, value)).__class__, kind)
        for value in [one for one in POOL if not is_between(one, 0, 2)]:
            for told in ((value, 0), (value, value), (0, value), (value, None)):
                error = error_of(lambda: call(first, *told))
                self.assertEqual((error.__class__, error.value is value), (InvalidNumber, True))
        for thing in range(3):
            self.assertEqual(error_of(lambda: call(first, thing, thing)).__class__, InvalidProgram)
        self.assertEqual(told_by(error_of(lambda: call(first, 3, 3))), (InvalidNumber, 3))
        self.assertEqual(told_by(error_of(lambda: call(first, 0, False))), (InvalidNumber, False))

    def test_nothing_changes(self):
        for program in SMALL[::31]:
            before = (program.system.signs, program.far, program.goal, program.sides)
            results = [(program.feasible(), program.answer(), program.starts(), program.opposite(),
                        [program.crossings(base) for base in program.starts()]) for _ in range(2)]
            self.assertEqual(results[0], results[1])
            self.assertEqual((program.system.signs, program.far, program.goal, program.sides), before)
        for call in (lambda: list(SMALL[0]), lambda: SMALL[0] < SMALL[0], lambda: SMALL[0] + 1, lambda: len(SMALL[0])):
            self.assertEqual(error_of(call).__class__, TypeError)


if __name__ == "__main__":
    unittest.main()
