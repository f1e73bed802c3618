"""Desks: [18.1] to [18.4] and class Desk."""

import unittest
from itertools import product

from sidesigns.best.programs import Program
from sidesigns.desk.desk import Desk
from sidesigns.errors import (InvalidNumber, InvalidOperation, NothingToUndo, Refused, TooMany, UnknownName)
from sidesigns.hull.hulls import hull
from sidesigns.rows.rows import turned
from sidesigns.system.systems import System
from sidesigns.table.tables import Table
from sidesigns.web.webs import Web
from support import POOL, Wrong, are_upright, curve, error_of, is_between, is_plain, is_row, is_things, rows_of, told_by
from worlds import DRAWN, FOUR, LINE, PLANE, TINY, all_things, plain_views

THREE = [system for system in TINY if system.many == 3]
POINTS = curve(4, 2)


def is_name(value):
    return isinstance(value, str) and 1 <= len(value) <= 8 and all("a" <= letter <= "z" for letter in value)


def is_item(value, many):
    if isinstance(value, (System, Table)):
        return value.many == many
    return is_row(value, many)


FORMS = {"round": 2, "cut": 2, "view": 2, "upright": 2, "opposite": 2, "drawn": 2, "open": 1, "hull": 1, "best": 1}


def is_promise(value, many):
    """[18.1], whatever is kept."""
    if not isinstance(value, tuple) or not value or not isinstance(value[0], str) or value[0] not in FORMS:
        return False
    count = FORMS[value[0]] + 1
    more = value[count:]
    if len(value) < count or not all(is_name(name) for name in value[1:count]):
        return False
    if value[0] == "hull":
        return len(more) == 2 and is_things(more[0], many) and is_between(more[1], 0, many - 1)
    if value[0] == "best":
        if len(more) != 3 or not all(is_between(thing, 0, many - 1) for thing in more[:2]):
            return False
        return more[0] != more[1] and more[2] in ("none", "endless", "best")
    return more == ()


def kind(item):
    return "s" if isinstance(item, System) else "t" if isinstance(item, Table) else "r" if isinstance(item, str) else None


def is_true(items, promise):
    """[18.2]."""
    word = promise[0]
    told = [items.get(name) for name in promise[1:FORMS[word] + 1]]
    kinds = {"upright": "rr", "opposite": "ss", "drawn": "st", "open": "s", "hull": "s", "best": "s"}.get(word, "sr")
    if [kind(item) for item in told] != list(kinds):
        return False
    one, other = told[0], told[-1]
    if word == "round":
        return other in one.rounds.rows
    if word == "cut":
        return other in one.cuts.rows
    if word == "view":
        return other in plain_views(one)
    if word == "upright":
        return are_upright(one, other)
    if word == "opposite":
        return one.cuts == other.rounds
    if word == "drawn":
        return one.rounds == other.rounds
    if word == "open":
        return one.is_open
    if word == "hull":
        return one.is_simple and one.is_open and promise[3] in hull(one, promise[2])
    return Program(one, promise[2], promise[3]).answer()[0] == promise[4]


class Model:
    """A desk in plain words: all states that stand and that were taken back."""

    def __init__(self, many):
        self.many, self.items, self.promises, self.past, self.later = many, {}, {}, [], []

    def do(self, items, promises):
        broken = [label for label in sorted(promises) if not is_true(items, promises[label])]
        if broken:
            return (Refused, ("promise", broken[0]))
        self.past.append((self.items, self.promises))
        self.items, self.promises, self.later = items, promises, []
        return len(self.past)

    def run(self, deed):
        """What comes of a deed: a number, or an error and what it keeps."""
        word, *told = deed
        if word == "keep":
            items = {**self.items, told[0]: told[1]}
            return (TooMany, 12) if len(items) > 12 else self.do(items, self.promises)
        if word == "turn":
            return self.do({name: turned_item(item, told[0]) for name, item in self.items.items()}, self.promises)
        if word in ("drop", "let_go"):
            known = self.items if word == "drop" else self.promises
            if told[0] not in known:
                return (UnknownName, told[0])
            rest = {name: one for name, one in known.items() if name != told[0]}
            return self.do(rest, self.promises) if word == "drop" else self.do(self.items, rest)
        if word == "promise":
            return self.promise(*told)
        goal, source = (self.later, self.past) if word == "undo" else (self.past, self.later)
        if told[0] > len(source):
            return (NothingToUndo, told[0])
        for _ in range(told[0]):
            goal.append((self.items, self.promises))
            self.items, self.promises = source.pop()
        return len(self.past)

    def promise(self, label, promise):
        if label in self.promises:
            return (Refused, ("label", label))
        if len(self.promises) >= 12:
            return (TooMany, 12)
        for name in promise[1:FORMS[promise[0]] + 1]:
            if name not in self.items:
                return (UnknownName, name)
        return self.do(self.items, {**self.promises, label: promise})


def turned_item(item, things):
    if isinstance(item, str):
        return turned(item, things)
    return item.turned_at(things) if isinstance(item, System) else Table(item.many, turned_rows(item, things))


def turned_rows(table, things):
    return tuple(tuple(-one if at in things else one for at, one in enumerate(row)) for row in table.rows)


def run(desk, deed):
    """What comes of a deed of a desk: a number, or an error and what it keeps."""
    word, *told = deed
    found = []
    if word in ("undo", "redo"):
        error = error_of(lambda: found.append(getattr(desk, word)(times=told[0])))
    else:
        error = error_of(lambda: found.append(getattr(desk, word)(*told)))
    return found[0] if error is None else told_by(error)


def state(desk):
    """All that a desk shows."""
    return (desk.many, {name: desk.item(name) for name in desk.names}, {label: desk.promised(label) for label in desk.labels},
            desk.deeds)


class ModelTest(unittest.TestCase):
    def check_deeds(self, deeds, many=4):
        desk, model = Desk(many), Model(many)
        for deed in deeds:
            before = state(desk)
            expected = model.run(deed)
            self.assertEqual(run(desk, deed), expected, deeds)
            self.assertEqual(state(desk), (many, model.items, model.promises, len(model.past)))
            if not is_plain(expected):
                self.assertEqual(state(desk), before)
        return desk, model

    def test_all_rows_of_four_deeds(self):
        """[18.3], over all rows of four deeds of some kinds, behind two deeds."""
        kinds = (("keep", "r", "+-+0"), ("keep", "r", "+--0"), ("turn", (1,)), ("drop", "r"),
                 ("promise", "p", ("round", "a", "r")),
                 ("let_go", "p"), ("undo", 1), ("redo", 1), ("undo", 2))
        start = (("keep", "a", LINE), ("keep", "r", "+-+0"))
        for deeds in product(kinds, repeat=4):
            self.check_deeds(start + deeds)

    def test_rows_of_five_deeds(self):
        kinds = (("keep", "a", LINE), ("keep", "a", LINE.turned_at((2,))), ("promise", "q", ("open", "a")), ("undo", 1),
                 ("redo", 2), ("turn", (2,)))
        for deeds in product(kinds, repeat=5):
            self.check_deeds(deeds)

    def test_long_rows(self):
        items = (LINE, ~LINE, LINE.turned_at((0,)), "+-+0", "-+00", "0000")
        promises = (("round", "a", "r"), ("cut", "b", "r"), ("view", "a", "s"), ("upright", "r", "s"), ("opposite", "a", "b"),
                    ("open", "b"), ("hull", "a", (0, 2), 1), ("best", "a", 0, 3, "endless"), ("best", "b", 1, 2, "best"))
        pool = [("keep", name, item) for name in ("a", "b", "r", "s") for item in items]
        pool += [("turn", things) for things in ((), (0,), (1, 3), (0, 1, 2, 3))]
        pool += [("drop", name) for name in ("a", "b", "r", "z")]
        pool += [("keep", "t", POINTS), ("keep", "t", POINTS.upright_table()), ("promise", "p", ("drawn", "a", "t"))]
        pool += [("promise", label, promise) for label in ("p", "q") for promise in promises]
        pool += [("let_go", label) for label in ("p", "q", "a")]
        pool += [("undo", 1), ("undo", 3), ("redo", 1), ("redo", 2), ("undo", 0)]
        for start in range(60):
            self.check_deeds([pool[(start * 31 + at * at * (start + 2) + at * 5) % len(pool)] for at in range(60)])

    def test_undo_and_redo(self):
        deeds = [("keep", "a", LINE), ("keep", "r", "+-+0"), ("promise", "p", ("round", "a", "r")), ("turn", (0, 2)),
                 ("let_go", "p"), ("drop", "r")]
        desk = Desk(4)
        states = [state(desk)]
        for deed in deeds:
            run(desk, deed)
            states.append(state(desk))
        for at in range(len(deeds) + 1):
            for back in range(at + 1):
                other = Desk(4)
                for deed in deeds[:at]:
                    run(other, deed)
                self.assertEqual(other.undo(times=back), at - back)
                self.assertEqual(state(other), states[at - back])
                self.assertEqual(told_by(error_of(lambda: other.redo(times=back + 1))), (NothingToUndo, back + 1))
                self.assertEqual(told_by(error_of(lambda: other.undo(times=at - back + 1))), (NothingToUndo, at - back + 1))
                self.assertEqual(other.redo(times=back), at)
                self.assertEqual(state(other), states[at])

    def test_nothing_to_redo_behind_a_deed(self):
        desk = Desk(4)
        desk.keep("a", LINE)
        desk.keep("b", LINE)
        self.assertEqual(desk.undo(), 1)
        self.assertEqual(told_by(error_of(lambda: desk.drop("b"))), (UnknownName, "b"))
        self.assertEqual(desk.redo(), 2)
        self.assertEqual(desk.undo(), 1)
        self.assertEqual(desk.turn(()), 2)
        self.assertEqual(told_by(error_of(desk.redo)), (NothingToUndo, 1))
        self.assertEqual((desk.redo(times=0), desk.undo(times=0)), (2, 2))

    def test_deeds_that_change_nothing(self):
        desk = Desk(4)
        self.assertEqual([desk.turn(()), desk.keep("a", LINE), desk.keep("a", LINE), desk.turn(()), desk.deeds],
                         [1, 2, 3, 4, 4])
        self.assertEqual([desk.undo(), desk.undo(), "a" in desk, desk.undo(), "a" in desk], [3, 2, True, 1, False])


class PromisesTest(unittest.TestCase):
    def check(self, many, items, promise):
        """A promise is taken exactly if it is true."""
        desk = Desk(many)
        for name, item in items.items():
            desk.keep(name, item)
        count = desk.deeds
        if is_true(items, promise):
            self.assertEqual(desk.promise("p", promise), count + 1)
            self.assertEqual((desk.promised("p"), desk.labels), (promise, ("p",)))
        else:
            self.assertEqual(told_by(error_of(lambda: desk.promise("p", promise))), (Refused, ("promise", "p")))
            self.assertEqual((desk.labels, desk.deeds), ((), count))

    def test_rows_of_systems(self):
        for system in THREE[::2] + [DRAWN]:
            for row in rows_of(3):
                for word in ("round", "cut", "view"):
                    self.check(3, {"a": system, "r": row}, (word, "a", "r"))

    def test_upright(self):
        for one, other in product(rows_of(2), repeat=2):
            self.check(2, {"r": one, "s": other}, ("upright", "r", "s"))
        self.check(2, {"r": "00"}, ("upright", "r", "r"))
        self.check(2, {"r": "0+"}, ("upright", "r", "r"))

    def test_opposite(self):
        for one in THREE[::3]:
            for other in [~one, one] + THREE[::5]:
                self.check(3, {"a": one, "b": other}, ("opposite", "a", "b"))
        self.check(2, {"a": System.free(2)}, ("opposite", "a", "a"))
        half = System.of_table(Table(2, ((1, 1),)))
        self.check(2, {"a": half, "b": half.turned_at((0,))}, ("opposite", "a", "b"))

    def test_drawn(self):
        for system in THREE[::3]:
            for table in (Table(3, ()), Table(3, ((1, 1, 0),)), Table(3, ((1, 0, 1), (0, 1, 1))), curve(3, 3)):
                self.check(3, {"a": system, "t": table}, ("drawn", "a", "t"))
        for table in (curve(4, 2), curve(4, 3).upright_table()):
            self.check(4, {"a": System.of_table(table), "t": table}, ("drawn", "a", "t"))

    def test_open_and_hull(self):
        for system in THREE + FOUR[::9]:
            self.check(system.many, {"a": system}, ("open", "a"))
        for system in [one for one in THREE + FOUR[::5] if one.is_simple or one.is_open][::3]:
            for things in all_things(system.many)[::2]:
                for thing in range(system.many):
                    self.check(system.many, {"a": system}, ("hull", "a", things, thing))

    def test_best(self):
        for system in THREE[::3] + [LINE, PLANE]:
            for far, goal in product(range(system.many), repeat=2):
                if far != goal:
                    for word in ("none", "endless", "best"):
                        self.check(system.many, {"a": system}, ("best", "a", far, goal, word))

    def test_other_kinds_of_items(self):
        """[18.2]: an item of another kind makes a promise untrue, whatever it is."""
        items = {"a": LINE, "b": ~LINE, "t": POINTS, "r": "+-+0", "s": "0000"}
        for word, size in FORMS.items():
            for names in product(items, repeat=size):
                more = {"hull": ((0, 2), 1), "best": (0, 3, "endless")}.get(word, ())
                self.check(4, items, (word, *names, *more))

    def test_names_that_are_not_kept(self):
        desk = Desk(4)
        desk.keep("a", LINE)
        for promise, name in ((("round", "a", "r"), "r"), (("round", "b", "r"), "b"), (("open", "z"), "z"),
                              (("drawn", "a", "t"), "t"),
                              (("upright", "x", "y"), "x"), (("best", "q", 0, 1, "none"), "q"), (("hull", "h", (), 0), "h"),
                              (("opposite", "a", "c"), "c")):
            self.assertEqual(told_by(error_of(lambda: desk.promise("p", promise))), (UnknownName, name))
        self.assertEqual(desk.deeds, 1)

    def test_turning_keeps_the_first_six(self):
        """[18.4]."""
        cut = LINE.cuts.rows[0]
        for things in all_things(4):
            desk = Desk(4)
            for name, item in (("a", LINE), ("b", ~LINE), ("t", POINTS), ("r", "+-+0"), ("c", cut), ("v", "++--"),
                               ("u", POINTS.upright_table())):
                desk.keep(name, item)
            for label, promise in (("x", ("round", "a", "r")), ("y", ("cut", "a", "c")), ("z", ("view", "a", "v")),
                                   ("u", ("upright", "r", "v")),
                                   ("o", ("opposite", "b", "a")), ("t", ("drawn", "a", "t")), ("w", ("drawn", "b", "u"))):
                desk.promise(label, promise)
            count = desk.deeds
            self.assertEqual(desk.turn(things), count + 1)
            self.assertEqual(desk.item("a"), LINE.turned_at(things))
            self.assertEqual(desk.item("r"), turned("+-+0", things))
            self.assertEqual(desk.item("t"), turned_item(POINTS, things))
            self.assertEqual(desk.item("t").rounds, POINTS.rounds.turned_at(things))
            self.assertEqual(desk.turn(things), count + 2)
            self.assertEqual(desk.item("t"), POINTS)

    def test_long_tables(self):
        most = 10 ** 60 - 1
        long = Table(4, ((most, 10 ** 59 + 3, 7 ** 70, 1), (10 ** 58 + 1, most - 4, 3, 9), (5, 1, 1, most - 8))).upright_table()
        self.assertGreater(abs(long.rows[0][0]), 10 ** 60)
        desk = Desk(4)
        desk.keep("t", long)
        desk.keep("a", System.of_table(long))
        desk.promise("p", ("drawn", "a", "t"))
        desk.turn((0, 2))
        self.assertEqual(desk.item("t").rows, turned_rows(long, (0, 2)))
        self.assertEqual(System.of_table(desk.item("t")), System.of_table(long).turned_at((0, 2)))
        # What was kept can be kept again, and passed on.
        desk.keep("u", desk.item("t"))
        self.assertEqual(desk.item("u").is_alike(desk.item("t")), True)

    def test_broken_by(self):
        desk = Desk(4)
        for name, item in (("a", LINE), ("r", "+-+0"), ("s", "0000")):
            desk.keep(name, item)
        for label, promise in (("p", ("round", "a", "r")), ("c", ("upright", "r", "s")), ("q", ("open", "a")),
                               ("b", ("view", "a", "s"))):
            desk.promise(label, promise)
        before = state(desk)
        for name in ("a", "r", "s", "new"):
            for item in (LINE, ~LINE, POINTS, "+-+0", "+--0", "++++", "0000", LINE.turned_at((1,))):
                items = {"a": LINE, "r": "+-+0", "s": "0000", name: item}
                promises = before[2]
                expected = tuple(label for label in sorted(promises) if not is_true(items, promises[label]))
                self.assertEqual(desk.broken_by(name, item), expected)
                error = error_of(lambda: desk.during(lambda one: one.keep(name, item)))
                self.assertEqual(told_by(error) if error else None, (Refused, ("promise", expected[0])) if expected else None)
                self.assertEqual(state(desk), before)

    def test_the_least_label(self):
        desk = Desk(4)
        desk.keep("a", LINE)
        for label in ("m", "z", "c", "abc"):
            desk.promise(label, ("open", "a"))
        self.assertEqual(told_by(error_of(lambda: desk.drop("a"))), (Refused, ("promise", "abc")))
        self.assertEqual(told_by(error_of(lambda: desk.turn((1,)))), (Refused, ("promise", "abc")))
        self.assertEqual(told_by(error_of(lambda: desk.keep("a", "0000"))), (Refused, ("promise", "abc")))
        self.assertEqual(desk.let_go("abc"), 6)
        self.assertEqual(told_by(error_of(lambda: desk.keep("a", POINTS))), (Refused, ("promise", "c")))
        self.assertEqual(desk.deeds, 6)

    def test_shrunk_and_left_out(self):
        """What joins the stages: things left out of rounds are shrunk in cuts."""
        for thing in range(4):
            desk = Desk(3)
            desk.keep("a", LINE.left_out((thing,)))
            desk.keep("b", (~LINE).shrunk((thing,)))
            self.assertEqual(desk.promise("p", ("opposite", "a", "b")), 3)


class DuringTest(unittest.TestCase):
    def filled(self):
        desk = Desk(4)
        for deed in (("keep", "a", LINE), ("keep", "r", "+-+0"), ("promise", "p", ("round", "a", "r")), ("turn", (0,)),
                     ("turn", (1,))):
            run(desk, deed)
        desk.undo(times=2)
        return desk

    def check_as_before(self, desk):
        self.assertEqual(state(desk), state(self.filled()))
        self.assertEqual(desk.redo(times=2), 5)
        self.assertEqual(desk.item("a"), LINE.turned_at((0, 1)))
        self.assertEqual(told_by(error_of(desk.redo)), (NothingToUndo, 1))
        self.assertEqual(desk.undo(times=5), 0)
        self.assertEqual(desk.names, ())

    def test_all_kinds_of_calls(self):
        def fail(desk):
            desk.let_go("p")
            raise KeyError("x")

        def go_on(desk):
            desk.undo(times=3)
            desk.keep("z", "0000")
            desk.during(lambda one: one.keep("y", LINE))
            return desk.names
        calls = ((lambda desk: desk.let_go("p"), 4), (lambda desk: desk.redo(times=2), 5), (lambda desk: desk.undo(times=3), 0),
                 (go_on, ("z",)), (lambda desk: None, None), (lambda desk: desk.turn((2,)), 4), (len, 2),
                 (lambda desk: desk.drop("a"), (Refused, ("promise", "p"))),
                 (fail, (KeyError, None)), (lambda desk: desk.undo(times=9), (NothingToUndo, 9)),
                 (lambda desk: desk.during(fail), (KeyError, None)),
                 (lambda desk: desk.keep(None, 1), (InvalidOperation, None)))
        for call, expected in calls:
            desk = self.filled()
            found = []
            error = error_of(lambda: found.append(desk.during(call)))
            self.assertEqual(found[0] if error is None else told_by(error), expected)
            self.check_as_before(desk)

    def test_it_gets_the_desk(self):
        desk = self.filled()
        self.assertIs(desk.during(lambda one: one), desk)
        twin = desk.during(lambda one: (one.let_go("p"), one.twin())[1])
        self.assertEqual((twin.labels, desk.labels), ((), ("p",)))

    def test_errors_stay_the_same(self):
        desk = self.filled()
        error = ValueError("told")

        def fail(one):
            one.turn((3,))
            raise error
        self.assertIs(error_of(lambda: desk.during(fail)), error)
        self.check_as_before(desk)


class ClassTest(unittest.TestCase):
    def test_empty(self):
        for many in range(10):
            desk = Desk(many)
            self.assertEqual((desk.many, desk.names, desk.labels, desk.deeds, len(desk)), (many, (), (), 0, 0))
            self.assertEqual(str(desk), f"desk of {many} things: 0 items, 0 promises")
            self.assertEqual(desk.keep("a", System.free(many)), 1)
            self.assertEqual(desk.keep("b", Table(many, ())), 2)
            self.assertEqual(desk.keep("c", "0" * many), 3)
            self.assertEqual((desk.names, str(desk)), (("a", "b", "c"), f"desk of {many} things: 3 items, 0 promises"))

    def test_items_and_promises_are_returned(self):
        desk = Desk(4)
        desk.keep("abcdefgh", LINE)
        desk.keep("t", POINTS)
        desk.promise("z", ("drawn", "abcdefgh", "t"))
        self.assertEqual((desk.item("abcdefgh"), desk.item("t"), desk.promised("z")),
                         (LINE, POINTS, ("drawn", "abcdefgh", "t")))
        for value in POOL:
            if not (isinstance(value, str) and value in ("t", "abcdefgh")):
                self.assertEqual(told_by(error_of(lambda: desk.item(value))), (UnknownName, value))
                self.assertEqual(told_by(error_of(lambda: desk.drop(value))), (UnknownName, value))
            self.assertEqual(told_by(error_of(lambda: desk.promised(value))), (UnknownName, value))
            self.assertEqual(told_by(error_of(lambda: desk.let_go(value))), (UnknownName, value))

    def test_in(self):
        desk = Desk(3)
        desk.keep("a", "+-0")
        for value in POOL:
            self.assertIs(value in desk, isinstance(value, str) and value == "a")
        self.assertIs("b" in desk, False)

    def test_equality(self):
        def made(*deeds):
            desk = Desk(4)
            for deed in deeds:
                run(desk, deed)
            return desk
        keep, turn, promise = ("keep", "a", LINE), ("turn", (1,)), ("promise", "p", ("open", "a"))
        groups = [[made(), made(keep, ("drop", "a")), made(turn)], [made(keep), made(turn, keep), made(keep, turn, turn)],
                  [made(keep, promise)], [made(keep, turn)], [made(("keep", "b", LINE))], [made(("keep", "a", POINTS))],
                  [made(keep, ("promise", "q", ("open", "a")))], [made(("keep", "a", "+-+0"))], [Desk(3)]]
        for (at, one), (place, other) in product([(at, desk) for at, group in enumerate(groups) for desk in group], repeat=2):
            self.assertIs(one == other, at == place)
            self.assertIs(one != other, at != place)
        for value in POOL:
            if not isinstance(value, Desk):
                self.assertIs(groups[0][0] == value, False)
                self.assertIs(groups[0][0] != value, True)

    def test_twin(self):
        desk = Desk(4)
        desk.keep("a", LINE)
        desk.keep("r", "+-+0")
        desk.undo()
        twin = desk.twin()
        self.assertEqual((twin == desk, twin.deeds, twin is desk), (True, 1, False))
        self.assertEqual(twin.redo(), 2)
        self.assertEqual((desk.names, twin.names), (("a",), ("a", "r")))
        self.assertEqual(desk.redo(), 2)
        self.assertEqual(desk.undo(times=2), 0)
        self.assertEqual((twin.names, twin.deeds, twin.undo(times=2), twin.names), (("a", "r"), 2, 0, ()))

    def test_twelve(self):
        """Twelve names and twelve labels are the most."""
        desk = Desk(4)
        names = [letter * 2 for letter in "abcdefghijkl"]
        for at, name in enumerate(names):
            self.assertEqual(desk.keep(name, LINE), at + 1)
        self.assertEqual(told_by(error_of(lambda: desk.keep("m", LINE))), (TooMany, 12))
        self.assertEqual(desk.keep("aa", LINE), 13)
        for at, name in enumerate(names):
            self.assertEqual(desk.promise(name, ("open", name)), at + 14)
        for name in ("aa", "zz"):
            self.assertEqual(told_by(error_of(lambda: desk.promise("m", ("open", name)))), (TooMany, 12))
        self.assertEqual(told_by(error_of(lambda: desk.promise("cc", ("open", "zz")))), (Refused, ("label", "cc")))
        self.assertEqual(str(desk), "desk of 4 things: 12 items, 12 promises")
        # The names come ahead of the promises that would not be true.
        self.assertEqual(told_by(error_of(lambda: desk.keep("m", "0000"))), (TooMany, 12))
        self.assertEqual(desk.let_go("bb"), 26)
        self.assertEqual(told_by(error_of(lambda: desk.promise("m", ("open", "zz")))), (UnknownName, "zz"))
        self.assertEqual(desk.promise("m", ("open", "aa")), 27)
        self.assertEqual((len(desk), len(desk.labels), desk.drop("bb"), desk.keep("new", POINTS)), (12, 12, 28, 29))
        self.assertEqual(desk.broken_by("over", LINE), ())

    def test_no_other_operators(self):
        desk = Desk(2)
        for call in (lambda: iter(desk), lambda: desk + desk, lambda: desk < desk, lambda: desk["a"], lambda: ~desk,
                     lambda: desk | desk):
            self.assertEqual(error_of(call).__class__, TypeError)

    def test_nothing_is_shared(self):
        """[0.2]."""
        desk = Desk(4)
        desk.keep("a", LINE)
        names = desk.names
        desk.keep("b", LINE)
        self.assertEqual((names, desk.names), (("a",), ("a", "b")))
        desk.turn((0,))
        self.assertEqual(str(LINE), "4 things, rank 2: ++++++")
        self.assertEqual(POINTS.rows, ((1, 1, 1, 1), (0, 1, 2, 3)))


class ErrorsTest(unittest.TestCase):
    def test_wrong_arguments(self):
        def with_row(call):
            def run_it(*told, **named):
                desk = Desk(4)
                desk.keep("a", LINE)
                desk.keep("r", "+-+0")
                before = state(desk)
                try:
                    return call(desk, *told, **named)
                except Exception:
                    self.assertEqual(state(desk), before)
                    raise
            return run_it
        name = (InvalidOperation, is_name)
        item = (InvalidOperation, lambda value: is_item(value, 4))
        promise = (InvalidOperation, lambda value: is_promise(value, 4))
        times = (InvalidNumber, lambda value: is_plain(value) and 0 <= value < 10 ** 60)
        Wrong(Desk, (4,), ((InvalidNumber, lambda value: is_between(value, 0, 9)),)).check(self)
        Wrong(with_row(lambda desk, *told: desk.keep(*told)), ("b", LINE), (name, item)).check(self)
        Wrong(with_row(lambda desk, *told: desk.broken_by(*told)), ("b", LINE), (name, item)).check(self)
        Wrong(with_row(lambda desk, *told: desk.promise(*told)), ("p", ("round", "a", "r")), (name, promise)).check(self)
        Wrong(with_row(lambda desk, *told: desk.turn(*told)), ((0, 2),),
              ((InvalidOperation, lambda value: is_things(value, 4)),)).check(self)
        Wrong(with_row(lambda desk, **told: desk.undo(**told)), (1,), (times,), ("times",)).check(self)
        Wrong(with_row(lambda desk, **told: desk.redo(**told)), (0,), (times,), ("times",)).check(self)
        for call in (lambda desk, value: desk.item(value), lambda desk, value: desk.drop(value)):
            Wrong(with_row(call), ("a",), ((UnknownName, lambda value: isinstance(value, str) and value in ("a", "r")),
                                           )).check(self)

    def test_names(self):
        desk = Desk(4)
        for name in ("", "A", "a b", "ab1", "abcdefghi", "a_b", "a\n", " a", "-", None, 0, ("a",), ["a"], b"a", "a" * 3000):
            for call in (lambda: desk.keep(name, LINE), lambda: desk.keep(name, None), lambda: desk.broken_by(name, None),
                         lambda: desk.promise(name, None), lambda: desk.promise("p", ("open", name))):
                self.assertEqual(error_of(call).__class__, InvalidOperation)
        for name in ("a", "z", "abcdefgh", "zzzzzzzz"):
            desk.keep(name, LINE)
        self.assertEqual(desk.names, ("a", "abcdefgh", "z", "zzzzzzzz"))

    def test_items(self):
        desk = Desk(4)
        for item in (PLANE, System.free(3), Table(3, ()), curve(5, 2), "+-0", "+-+0+", "+-+x", "", None, 4, ("+-+0",),
                     LINE.rounds, Desk(4),
                     Web(4, ()), Program(LINE, 0, 1), [LINE], True):
            for call in (lambda: desk.keep("a", item), lambda: desk.broken_by("a", item)):
                self.assertEqual(error_of(call).__class__, InvalidOperation)
        self.assertEqual(desk.deeds, 0)

    def test_promises(self):
        desk = Desk(4)
        wrong = ((), ("open",), ("open", "a", "b"), ["open", "a"], ("opens", "a"), ("open", "A"), ("open", None),
                 ("round", "a"), ("round", "a", "r", "s"),
                 ("round", ("a",), "r"), ("cut", "a", 1), ("view", "a", ""), ("upright", "r"), ("opposite", "a", "b", "c"),
                 ("drawn", "a", LINE),
                 ("hull", "a", (0, 2)), ("hull", "a", (2, 0), 1), ("hull", "a", [0, 2], 1), ("hull", "a", (0, 4), 1),
                 ("hull", "a", (0, 2), 4),
                 ("hull", "a", (0, 2), -1), ("hull", "a", (0, 2), True), ("hull", "a", (False,), 1),
                 ("hull", "a", (0, 2), None),
                 ("hull", "a", (0, 2), 1, 1), ("hull", (0, 2), "a", 1), ("best", "a", 0, 0, "best"),
                 ("best", "a", 0, 4, "best"), ("best", "a", 4, 0, "best"),
                 ("best", "a", -1, 0, "best"), ("best", "a", False, 1, "best"), ("best", "a", 0, True, "best"),
                 ("best", "a", 0, 1, "ray"),
                 ("best", "a", 0, 1, None), ("best", "a", 0, 1, ["best"]), ("best", "a", 0, 1),
                 ("best", "a", 0, 1, "best", 0), (None, "a"),
                 ("", "a"), (["open"], "a"), "open", None, {"open": "a"}, (LINE, "a"), ("member",),
                 ("best", "a", "0", 1, "none"))
        for promise in wrong:
            self.assertEqual(error_of(lambda: desk.promise("p", promise)).__class__, InvalidOperation, promise)
            self.assertFalse(is_promise(promise, 4))
        for promise in (("open", "a"), ("hull", "a", (), 3), ("hull", "a", (0, 1, 2, 3), 0), ("best", "a", 3, 0, "none")):
            self.assertEqual(told_by(error_of(lambda: desk.promise("p", promise))), (UnknownName, "a"))

    def test_things_of_an_empty_desk(self):
        for things in ((4,), (1, 0), [0], None, (True,), (-1,), 0, (0, 0)):
            self.assertEqual(error_of(lambda: Desk(4).turn(things)).__class__, InvalidOperation)

    def test_times(self):
        desk = Desk(4)
        desk.keep("a", LINE)
        desk.keep("b", LINE)
        desk.undo()
        for call in (desk.undo, desk.redo):
            for times in (-1, True, False, None, "1", (1,), 10 ** 60, -10 ** 99, [1], {}):
                self.assertEqual(told_by(error_of(lambda: call(times=times))), (InvalidNumber, times))
            for times in (2, 10, 10 ** 60 - 1):
                self.assertEqual(told_by(error_of(lambda: call(times=times))), (NothingToUndo, times))
        self.assertEqual((desk.names, desk.redo(), desk.names), (("a",), 2, ("a", "b")))

    def test_order_of_errors(self):
        desk = Desk(4)
        desk.keep("a", LINE)
        desk.keep("r", "+-+0")
        desk.promise("p", ("round", "a", "r"))
        self.assertEqual(told_by(error_of(lambda: desk.promise("p", ("open", "zz")))), (Refused, ("label", "p")))
        self.assertEqual(told_by(error_of(lambda: desk.promise("p", ("cut", "a", "r")))), (Refused, ("label", "p")))
        self.assertEqual(told_by(error_of(lambda: desk.promise("p", ("cut", "a")))), (InvalidOperation, None))
        self.assertEqual(told_by(error_of(lambda: desk.promise("q", ("cut", "a", "r")))), (Refused, ("promise", "q")))
        self.assertEqual(told_by(error_of(lambda: desk.drop("zz"))), (UnknownName, "zz"))
        self.assertEqual(told_by(error_of(lambda: desk.drop("r"))), (Refused, ("promise", "p")))
        self.assertEqual(told_by(error_of(lambda: desk.keep("r", "+--0"))), (Refused, ("promise", "p")))
        self.assertEqual(desk.deeds, 3)


if __name__ == "__main__":
    unittest.main()
