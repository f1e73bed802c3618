"""Changes of names and signs: [7.1] to [7.6] and the functions of stage 7."""

import unittest
from itertools import permutations, product
from math import factorial

from sidesigns.errors import InvalidOperation, InvalidOrder, InvalidRow, InvalidSystem, TooMany
from sidesigns.rows.rows import Lot
from sidesigns.system.forms import (back_change, form_of, form_paper, is_form_paper, joined_changes, least_form, led,
                                    led_row, own_changes, own_count, parts_of)
from sidesigns.system.judging import system_of_signs
from sidesigns.system.systems import System
from support import (POOL, Wrong, curve, error_of, has, is_between, is_row, is_things, opposite, rows_of, told_by)
from worlds import COLUMNED, CURVES, FIVE, FOUR, LINE, MIXED, PLANE, SIX, TINY, all_changes, all_things, bent

SMALL = TINY + FOUR[::12]
CHANGES = {many: all_changes(many) for many in range(5)}


def plain_row(row, order, things):
    """The row to which a change leads [7.1]."""
    signs = [row[thing] for thing in order]
    return "".join(opposite(sign) if at in things else sign for at, sign in enumerate(signs))


def is_order(value, many):
    return isinstance(value, tuple) and all(is_between(one, 0, many - 1) for one in value) \
        and sorted(value) == list(range(many))


def is_change(value):
    return isinstance(value, tuple) and len(value) == 2 and isinstance(value[0], tuple) and len(value[0]) <= 9 \
        and is_order(value[0], len(value[0])) and is_things(value[1], len(value[0]))


class LedTest(unittest.TestCase):
    def test_systems(self):
        """[7.1], [7.2]: rounds, cuts, views, regions, bases and the opposite, over all changes."""
        for system in TINY + FOUR[::60]:
            for order, things in CHANGES[system.many]:
                other = led(system, order, things)
                for lot, rows in ((other.rounds, system.rounds), (other.cuts, system.cuts), (other.views(), system.views()),
                                  (other.regions(), system.regions())):
                    self.assertEqual(list(lot), sorted(plain_row(row, order, things) for row in rows))
                bases = [tuple(k for k in range(system.many) if order[k] in base) for base in system.bases]
                self.assertEqual(other.bases, tuple(sorted(bases)))
                self.assertEqual(~other, led(~system, order, things))
                self.assertEqual(other, system.renamed(order).turned_at(things))

    def test_rows(self):
        for many in range(4):
            for row, (order, things) in product(rows_of(many), CHANGES[many]):
                self.assertEqual(led_row(row, order, things), plain_row(row, order, things))
        self.assertEqual(led_row("+-0+-0+-0", (8, 7, 6, 5, 4, 3, 2, 1, 0), (1, 2)), "0+-0-+0-+")

    def test_back(self):
        for many in range(5):
            for change in CHANGES[many]:
                back = back_change(change)
                self.assertIn(back, CHANGES[many])
                self.assertEqual(back_change(back), change)
                self.assertEqual(joined_changes(change, back), (tuple(range(many)), ()))
                self.assertEqual(joined_changes(back, change), (tuple(range(many)), ()))
        for system in SMALL:
            for change in CHANGES[system.many][::7]:
                self.assertEqual(led(led(system, *change), *back_change(change)), system)

    def test_joined(self):
        for many in range(4):
            rows = rows_of(many)[::3]
            for one, other in product(CHANGES[many], repeat=2):
                both = joined_changes(one, other)
                self.assertIn(both, CHANGES[many])
                for row in rows:
                    self.assertEqual(led_row(row, *both), led_row(led_row(row, *one), *other))
        nine = ((1, 2, 3, 4, 5, 6, 7, 8, 0), (0, 4))
        self.assertEqual(led_row("+-0+-0+-0", *joined_changes(nine, nine)), led_row(led_row("+-0+-0+-0", *nine), *nine))

    def test_edges(self):
        self.assertEqual(led(System.free(0), (), ()), System.free(0))
        self.assertEqual(led_row("", (), ()), "")
        self.assertEqual(back_change(((), ())), ((), ()))
        nine = System.of_table(curve(9, 4))
        order = (2, 0, 1, 8, 7, 3, 4, 5, 6)
        other = led(nine, order, (0, 8))
        self.assertEqual(list(other.rounds), sorted(plain_row(row, order, (0, 8)) for row in nine.rounds))
        self.assertEqual(led(other, *back_change((order, (0, 8)))), nine)


class PartsTest(unittest.TestCase):
    def test_parts(self):
        """[7.4]: some round has both, or some cut."""
        for system in TINY + FOUR + FIVE + SIX + COLUMNED + [bent(), PLANE + LINE, MIXED]:
            for rows in (system.rounds, system.cuts):
                near = [{thing}.union(*[has(row) for row in rows if thing in has(row)]) for thing in range(system.many)]
                parts = sorted({tuple(sorted(part)) for part in near})
                self.assertEqual(parts_of(system), tuple(parts))
            self.assertEqual(sorted(thing for part in parts_of(system) for thing in part), list(range(system.many)))
            for thing in system.loops + system.pillars:
                self.assertIn((thing,), parts_of(system))

    def test_beside(self):
        both = LINE + MIXED
        self.assertEqual(parts_of(both), ((0, 1, 2, 3), (4,), (5, 6), (7,)))


class FormsTest(unittest.TestCase):
    def test_forms(self):
        for system in TINY + FOUR + FIVE + CURVES + [bent()]:
            self.assertEqual(form_of(system), f"{system.many} {system.rank} {system.signs}")
        self.assertEqual(form_of(System.free(0)), "0 0 +")

    def test_least_form(self):
        """[7.3], over all changes."""
        for system in TINY + FOUR[::9]:
            forms = [form_of(led(system, *change)) for change in CHANGES[system.many]]
            self.assertEqual(least_form(system), min(forms))

    def test_least_form_of_five_things(self):
        for system in FIVE[::45]:
            forms = [form_of(led(system, *change)) for change in all_changes(5)]
            self.assertEqual(least_form(system), min(forms))

    def test_of_one_form(self):
        """[7.3], over all pairs of small systems."""
        for group in [[system for system in TINY if system.many == many] for many in range(4)] + [FOUR[::9]]:
            for one in group:
                led_to = {}
                for change in CHANGES[one.many]:
                    led_to.setdefault(form_of(led(one, *change)), []).append(("led", *change))
                for other in group:
                    papers = led_to.get(form_of(other), [])
                    self.assertIs(bool(papers), least_form(one) == least_form(other))
                    paper = form_paper(one, other)
                    if papers:
                        self.assertIn(paper, papers)
                    else:
                        self.assertEqual(paper, ("forms", least_form(one), least_form(other)))

    def test_six_things_of_rank_three(self):
        """[7.6]: four least forms in general place."""
        start = System.of_table(curve(6, 3))
        found, waiting = {least_form(start)}, [start]
        while waiting:
            system = waiting.pop()
            for at in range(20):
                sign = opposite(system.signs[at])
                text = system.signs[:at] + sign + system.signs[at + 1:]
                other = right_or_none(6, 3, text)
                if other is not None and least_form(other) not in found:
                    found.add(least_form(other))
                    waiting.append(other)
        self.assertEqual(len(found), 4)

    def test_counts_of_one_form(self):
        """[7.6]."""
        for system in SMALL + FIVE[::20]:
            order = tuple(range(1, system.many)) + ((0,) if system.many else ())
            other = led(system, order, tuple(range(0, system.many, 2)))
            for one, second in ((system.rounds, other.rounds), (system.cuts, other.cuts), (system.views(), other.views()),
                                (system.regions(), other.regions())):
                self.assertEqual(sorted(len(has(row)) for row in one), sorted(len(has(row)) for row in second))

    def test_papers_judged(self):
        for one, other in [(LINE, LINE), (MIXED, MIXED), (LINE, FOUR[3]), (FOUR[50], FOUR[57]), (TINY[20], TINY[25])]:
            if one.many == other.many:
                self.assertIs(is_form_paper(one, other, form_paper(one, other)), True)
                for change in CHANGES[one.many]:
                    right = led(one, *change) == other
                    self.assertIs(is_form_paper(one, other, ("led", *change)), right)
                forms = ("forms", least_form(one), least_form(other))
                self.assertIs(is_form_paper(one, other, forms), forms[1] != forms[2])

    def test_no_other_value(self):
        ends = system_of_signs(4, 2, "+++++0")
        forms = ("forms", "4 2 ++++++", "4 2 +++++0")
        self.assertIs(is_form_paper(LINE, ends, forms), True)
        for value in (forms[::-1], ("forms", forms[2], forms[1]), list(forms), forms + (1,), ("forms", forms[1]),
                      ("led", (0, 1, 2, 3), ())):
            self.assertIs(is_form_paper(LINE, ends, value), False)
        for value in POOL:
            self.assertIs(is_form_paper(LINE, LINE, value), False)
            for told in (("led", value, ()), ("led", (0, 1, 2, 3), value), (value, (0, 1, 2, 3), ()), ("forms", value, value),
                         ["led", (0, 1, 2, 3), ()], ("led", (0, 1, 2, 3), (), value)):
                self.assertIs(is_form_paper(LINE, LINE, told), told == ("led", (0, 1, 2, 3), ()), told)
        for order in ((0, True, 2, 3), (False, 1, 2, 3), [0, 1, 2, 3], (0, 1, 2), (0, 1, 2, 3, 4)):
            self.assertIs(is_form_paper(LINE, LINE, ("led", order, ())), False)
        self.assertIs(is_form_paper(LINE, LINE, ("led", (3, 2, 1, 0), ())), True)
        self.assertIs(is_form_paper(LINE, LINE, ("forms", least_form(LINE), least_form(LINE))), False)

    def test_six_and_seven_things(self):
        six = System.of_table(curve(6, 3))
        other = led(six, (3, 4, 1, 0, 2, 5), (1, 3))
        self.assertEqual(least_form(other), least_form(six))
        paper = form_paper(six, other)
        self.assertEqual(led(six, *paper[1:]), other)
        seven = System.of_table(curve(7, 3))
        for call in (lambda: least_form(seven), lambda: form_paper(seven, seven), lambda: own_count(seven),
                     lambda: next(own_changes(seven)), lambda: is_form_paper(seven, seven, None)):
            self.assertEqual(told_by(error_of(call)), (TooMany, 6))
        self.assertEqual(form_of(seven), "7 3 " + "+" * 35)


def right_or_none(many, rank, text):
    """The system with some base signs, turned if they begin with "-", or None."""
    if text.startswith("-"):
        text = opposite_text(text)
    try:
        return system_of_signs(many, rank, text)
    except ArithmeticError:
        return None


def opposite_text(text):
    return "".join(opposite(sign) for sign in text)


class OwnTest(unittest.TestCase):
    def test_own_changes(self):
        """[7.5], over all changes."""
        for system in TINY + FOUR[::12]:
            found = [change for change in CHANGES[system.many] if led(system, *change) == system]
            self.assertEqual(list(own_changes(system)), found)
            self.assertEqual(own_count(system), len(found))
            parts = parts_of(system)
            kept = [things for order, things in found if order == tuple(range(system.many))]
            self.assertEqual(sorted(kept), sorted(tuple(sorted(thing for part in chosen for thing in part))
                                                  for chosen in some_of(parts)))
            for order in permutations(range(system.many)):
                self.assertIn(len([1 for one, _ in found if one == order]), (0, 2 ** len(parts)))

    def test_how_many_systems_there_are_of_a_form(self):
        for system in TINY + FOUR[::25]:
            others = {led(system, *change).signs for change in CHANGES[system.many]}
            many = system.many
            self.assertEqual(own_count(system) * len(others), factorial(many) * 2 ** many)

    def test_larger(self):
        for system, count in ((System.free(6), 720 * 64), (~System.free(6), 720 * 64), (System.of_table(curve(6, 3)), 24)):
            self.assertEqual(own_count(system), count)
            changes = list(own_changes(system))
            self.assertEqual(len(changes), count)
            self.assertEqual(changes, sorted(set(changes)))
            for change in changes[::count // 12]:
                self.assertEqual(led(system, *change), system)


def some_of(parts):
    """All lots of some parts."""
    return [[parts[at] for at in chosen] for chosen in all_things(len(parts))]


class WrongArguments(unittest.TestCase):
    def test_led(self):
        def is_system(value):
            return isinstance(value, System)

        kinds = ((InvalidOrder, lambda value: is_order(value, 3)), (InvalidOperation, lambda value: is_things(value, 3)))
        Wrong(led, (System.free(3), (0, 2, 1), (1,)), ((InvalidSystem, is_system),) + kinds).check(self)
        Wrong(lambda order, things: led_row("+-0", order, things), ((0, 2, 1), (1,)), kinds).check(self)
        Wrong(lambda row: led_row(row, tuple(range(len(row) if isinstance(row, str) else 3)), ()), ("+-0",),
              ((InvalidRow, is_row),)).check(self)
        self.assertEqual(error_of(lambda: led_row("+x", None, None)).__class__, InvalidRow)
        self.assertEqual(error_of(lambda: led_row("+-", (0, 1, 2), None)).__class__, InvalidOrder)

    def test_changes(self):
        Wrong(back_change, (((1, 0), (1,)),), ((InvalidOperation, is_change),)).check(self)
        for call in (lambda one: joined_changes(one, ((0, 1), ())), lambda one: joined_changes(((0, 1), ()), one)):
            Wrong(call, (((1, 0), (1,)),), ((InvalidOperation, lambda value: is_change(value) and len(value[0]) == 2),)) \
                .check(self)
        for value in (((0, 2), ()), ((0, 1), (2,)), ((0, 1), (1, 0)), ((0, 1),), ((0, 1), (), ()), [(0, 1), ()], ([0, 1], ()),
                      ((0, 1), [0]), ((0, True), ()), ((0, 1), (True,)), (tuple(range(10)), ())):
            self.assertEqual(error_of(lambda: back_change(value)).__class__, InvalidOperation)
        self.assertEqual(back_change((tuple(range(9)), (8,))), (tuple(range(9)), (8,)))

    def test_systems(self):
        def is_small(value):
            return isinstance(value, System)

        for call in (parts_of, form_of, least_form, own_count, own_changes):
            Wrong(call, (System.free(2),), ((InvalidSystem, is_small),)).check(self)
        for call in (form_paper, lambda one, other: is_form_paper(one, other, None)):
            Wrong(call, (System.free(3), System.free(3)), (
                (InvalidSystem, is_small), (InvalidSystem, lambda value: is_small(value) and value.many == 3))).check(self)
            self.assertEqual(error_of(lambda: call(System.free(7), System.free(6))).__class__, InvalidSystem)
            self.assertEqual(error_of(lambda: call(System.free(3), Lot(3))).__class__, InvalidSystem)

    def test_nothing_changes(self):
        for system in SMALL[::5]:
            before = (system.signs, system.rounds.rows)
            results = [(least_form(system), list(own_changes(system)), own_count(system), parts_of(system),
                        form_paper(system, system)) for _ in range(2)]
            self.assertEqual(results[0], results[1])
            self.assertEqual((system.signs, system.rounds.rows), before)


if __name__ == "__main__":
    unittest.main()
