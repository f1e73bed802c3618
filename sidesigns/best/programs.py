"""Programs: systems with a far thing and a goal, and their best corners."""

from math import gcd

from sidesigns.errors import InvalidOperation, InvalidProgram
from sidesigns.papers import is_told
from sidesigns.rows.rows import is_row, lot_of
from sidesigns.system.checks import check_thing
from sidesigns.system.systems import System, check_system
from sidesigns.system.viewing import is_upright_to_all
from sidesigns.table.tables import check_table
from sidesigns.things import is_ascending, others_than


class Program:
    """A system with a far thing and a goal."""

    def __init__(self, system, far, goal):
        check_system(system)
        check_thing(far, system.many)
        check_thing(goal, system.many)
        if far == goal:
            raise InvalidProgram("the far thing and the goal are one thing")
        self._system = system
        self._far = far
        self._goal = goal
        self._sides = others_than((far, goal), system.many)

    @property
    def system(self):
        """The system."""
        return self._system

    @property
    def far(self):
        """The far thing."""
        return self._far

    @property
    def goal(self):
        """The thing at which views are to be great."""
        return self._goal

    @property
    def sides(self):
        """The ascending tuple of all other things."""
        return self._sides

    def feasible(self):
        """The lot of all feasible views."""
        views = self._system.views()
        return lot_of(views.many, [row for row in views.rows if self._is_feasible(row)])

    def _is_feasible(self, row):
        return row[self._far] == "+" and self._has_no_side_against(row)

    def _has_no_side_against(self, row):
        return all([row[side] != "-" for side in self._sides])

    def answer(self):
        """Any answer."""
        rounds = [row for row in self._system.rounds.rows if self._has_no_side_against(row)]
        cuts = [row for row in self._system.cuts.rows if self._has_no_side_against(row)]
        for row in rounds:
            if self._is_barring(row):
                return ("none", row)
        # Where no round bars it, some feasible view is a cut, and so are those of the other answers.
        corners = [row for row in cuts if row[self._far] == "+"]
        for row in cuts:
            if self._is_ray(row):
                return ("endless", corners[0], row)
        return self._best_answer(corners, rounds)

    def _best_answer(self, corners, rounds):
        """The first best answer of feasible cuts and of rounds; crossings end in one of these."""
        for view in corners:
            for row in rounds:
                if self._is_best_round(view, row):
                    return ("best", view, row)
        return None

    def _is_barring(self, row):
        """Whether a round without sides against it shows that no view is feasible."""
        return row[self._far] == "+" and row[self._goal] == "0"

    def _is_ray(self, row):
        """Whether a view without sides against it shows that there is no end."""
        return row[self._far] == "0" and row[self._goal] == "+"

    def _is_best_round(self, view, row):
        """Whether a round without sides against it shows that a feasible view is best."""
        return row[self._goal] == "+" and all([view[side] != "+" or row[side] == "0" for side in self._sides])

    def is_answer(self, value):
        """Whether the value is an answer."""
        if is_told(value, "none", 2):
            return self._is_free_round(value[1]) and self._is_barring(value[1])
        if not isinstance(value, tuple) or len(value) != 3 or not self._is_view(value[1]):
            return False
        word, view, row = value
        if not self._is_feasible(view):
            return False
        if word == "endless":
            return self._is_view(row) and self._has_no_side_against(row) and self._is_ray(row)
        if word == "best":
            return self._is_free_round(row) and self._is_best_round(view, row)
        return False

    def _is_free_round(self, row):
        """Whether a value is a round without sides against it."""
        return row in self._system.rounds and self._has_no_side_against(row)

    def _is_view(self, row):
        return is_row(row, self._system.many) and is_upright_to_all(row, self._system.rounds.rows)

    def starts(self):
        """The ascending tuple of all bases that have the far thing and have not the goal."""
        return tuple([base for base in self._system.bases if self._far in base and self._goal not in base])

    def crossings(self, base):
        """The bases to which crossings come from a base, and the end."""
        if not is_ascending(base, self._system.many) or base not in self.starts():
            raise InvalidOperation("not a base with the far thing and without the goal")
        bases = []
        end = None
        while end is None:
            bases.append(base)
            base, end = self._crossed(base)
        return (tuple(bases), end)

    def _crossed(self, base):
        """The next base and None, or None and the end."""
        view = self._system.cut_of(base, self._far)
        row = self._system.round_of(base, self._goal)
        wrong = [side for side in self._sides if _is_wrong(base, side, view, row)]
        if wrong == []:
            return (None, ("best", view, row))
        if wrong[0] in base:
            return self._brought_in(base, wrong[0])
        return self._put_out(base, wrong[0])

    def _put_out(self, base, thing):
        """What comes of a wrong side outside of the base: it comes in for another one."""
        row = self._system.round_of(base, thing)
        against = [side for side in self._sides if side in base and row[side] == "-"]
        if against == []:
            return (None, ("none", row))
        return (_exchanged(base, against[0], thing), None)

    def _brought_in(self, base, thing):
        """What comes of a wrong side of the base: it goes out for another one."""
        row = self._system.cut_of(base, thing)
        against = [side for side in self._sides if side not in base and row[side] == "-"]
        if against == []:
            return (None, ("ray", row))
        return (_exchanged(base, thing, against[0]), None)

    def opposite(self):
        """The opposite program."""
        return Program(~self._system, self._goal, self._far)

    def __eq__(self, other):
        if not isinstance(other, Program) or self._system != other._system:
            return False
        return self._far == other._far and self._goal == other._goal

    def __str__(self):
        return f"program of {self._system.many} things: far {self._far}, goal {self._goal}"


def _is_wrong(base, side, view, row):
    """Whether a side is wrong at a base."""
    if side in base:
        return row[side] == "-"
    return view[side] == "-"


def _exchanged(base, old, new):
    """The base with a new thing in the place of an old one."""
    return tuple(sorted([thing for thing in base if thing != old] + [new]))


def table_answer(table, far, goal):
    """The greatest number at the goal that a weighted row has with 1 at the far thing, if there is one."""
    check_table(table)
    answer = Program(System.of_table(table), far, goal).answer()
    if answer[0] != "best":
        return (answer[0],)
    weights = table.cut_weights(answer[1])
    top = _weighted_at(table, weights, goal)
    low = _weighted_at(table, weights, far)
    common = gcd(top, low)
    return ("best", top // common, low // common)


def _weighted_at(table, weights, thing):
    return sum([weight * row[thing] for weight, row in zip(weights, table.rows)])
