"""Promises about the items of a desk."""

from sidesigns.best.programs import Program
from sidesigns.draw.drawings import does_draw
from sidesigns.hull.hulls import hull
from sidesigns.integers import is_between
from sidesigns.rows.rows import is_row, is_upright
from sidesigns.system.systems import System
from sidesigns.system.viewing import is_upright_to_all
from sidesigns.table.tables import Table
from sidesigns.things import is_ascending

MAX_LETTERS = 8
LETTERS = "abcdefghijklmnopqrstuvwxyz"
# For each form of promises the kinds of the items that it names.
KINDS = {
    "round": ("system", "row"), "cut": ("system", "row"), "view": ("system", "row"), "upright": ("row", "row"),
    "opposite": ("system", "system"), "drawn": ("system", "table"), "open": ("system",), "hull": ("system",),
    "best": ("system",),
}
# How many members come behind the names.
MORE = {"hull": 2, "best": 3}


def is_name(value):
    """Whether the value is a name, or a label."""
    return isinstance(value, str) and 1 <= len(value) <= MAX_LETTERS and value.strip(LETTERS) == ""


def kind_of(item, many):
    """The kind of an item of a desk for so many things, or None if it is none."""
    if isinstance(item, System) and item.many == many:
        return "system"
    if isinstance(item, Table) and item.many == many:
        return "table"
    return "row" if is_row(item, many) else None


def is_promise(value, many):
    """Whether the value is a promise of a desk for so many things, whatever it keeps."""
    if not isinstance(value, tuple) or value == () or not isinstance(value[0], str) or value[0] not in KINDS:
        return False
    word = value[0]
    size = 1 + len(KINDS[word])
    if len(value) != size + MORE.get(word, 0) or not all([is_name(name) for name in value[1:size]]):
        return False
    more = value[size:]
    if word == "hull":
        return is_ascending(more[0], many) and is_between(more[1], 0, many - 1)
    if word == "best":
        return _are_ends(more[0], more[1], many) and more[2] in ("none", "endless", "best")
    return True


def _are_ends(far, goal, many):
    """Whether two values are unlike things."""
    return is_between(far, 0, many - 1) and is_between(goal, 0, many - 1) and far != goal


def names_in(promise):
    """The names of a promise, in order."""
    return promise[1:1 + len(KINDS[promise[0]])]


def is_true(promise, items, many):
    """Whether a promise is true of the items by their names."""
    names = names_in(promise)
    if not all([name in items for name in names]):
        return False
    told = [items[name] for name in names]
    if [kind_of(item, many) for item in told] != list(KINDS[promise[0]]):
        return False
    return _does_hold(promise[0], told, promise[1 + len(names):])


def _does_hold(word, items, more):
    """Whether a promise holds of items of the kinds that its form tells."""
    if word == "upright":
        return is_upright(items[0], items[1])
    system = items[0]
    if word == "opposite":
        return ~system == items[1]
    if word == "drawn":
        return does_draw(items[1], system)
    if word == "open":
        return system.is_open
    if word == "hull":
        return system.is_simple and system.is_open and more[1] in hull(system, more[0])
    if word == "best":
        return Program(system, more[0], more[1]).answer()[0] == more[2]
    return _is_row_of(word, system, items[1])


def _is_row_of(word, system, row):
    """Whether a row is a round, a cut or a view of a system."""
    if word == "round":
        return row in system.rounds
    if word == "cut":
        return row in system.cuts
    return is_upright_to_all(row, system.rounds.rows)
