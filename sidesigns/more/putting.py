"""Putting one more thing into a system by signs at its cuts."""

from sidesigns.errors import InvalidOperation, InvalidRow, Refused, TooMany
from sidesigns.integers import is_between
from sidesigns.more.rings import (all_lines, all_rings, is_right_along, lesser_cut, right_signs, ring_of_line,
                                  tests_by_cut)
from sidesigns.papers import is_told
from sidesigns.rows.rows import MAX_THINGS, laid_over, lot_of
from sidesigns.rows.signs import turned_signs
from sidesigns.system.checks import check_thing
from sidesigns.system.systems import System, check_system
from sidesigns.things import is_ascending

MAX_PAIRS = 15


def _check_signs(system, signs):
    check_system(system)
    if not _is_signing(system, signs):
        raise InvalidOperation("not a signing of the system")


def _is_signing(system, value):
    """Whether the value is a dict of the cuts with signs, turned ones at turned cuts."""
    if not isinstance(value, dict) or len(value) != len(system.cuts):
        return False
    for cut in system.cuts.rows:
        if cut not in value or not _is_sign(value[cut], "+-0"):
            return False
    return all([value[turned_signs(cut)] == turned_signs(value[cut]) for cut in system.cuts.rows])


def _is_sign(value, signs):
    return isinstance(value, str) and len(value) == 1 and value in signs


def lines_of(system):
    """The ascending tuple of all lines."""
    check_system(system)
    return all_lines(system)


def line_ring(system, line):
    """The cuts of a line, one behind the other along its ring."""
    check_system(system)
    if not is_ascending(line, system.many) or line not in all_lines(system):
        raise InvalidOperation("not a line of the system")
    return ring_of_line(system, line)


def _wrong_lines(system, signs):
    """The ascending list of the lines on which a signing is not right."""
    rings = all_rings(system)
    return [line for line, ring in rings.items() if not is_right_along(signs, ring)]


def line_paper(system, signs):
    """The paper on whether a signing is right on each line."""
    _check_signs(system, signs)
    wrong = _wrong_lines(system, signs)
    return ("right",) if wrong == [] else ("line", wrong[0])


def is_line_paper(system, signs, value):
    """Whether the value is a right paper on a signing."""
    _check_signs(system, signs)
    wrong = _wrong_lines(system, signs)
    if is_told(value, "right", 1):
        return wrong == []
    return is_told(value, "line", 2) and is_ascending(value[1], system.many) and value[1] in wrong


def put_in(system, signs):
    """The system with one more thing, at which the cuts have the told signs."""
    paper = line_paper(system, signs)
    if paper != ("right",):
        raise Refused(paper)
    if system.many == MAX_THINGS:
        raise TooMany(MAX_THINGS)
    rows = [cut + signs[cut] for cut in system.cuts.rows]
    for ring in all_rings(system).values():
        rows = rows + _rows_between(ring, signs)
    return System.of_cuts(lot_of(system.many + 1, rows))


def _rows_between(ring, signs):
    """The cuts with "0" at the new thing that come of neighbours with the signs "+" and "-"."""
    pairs = [(ring[at - 1], ring[at]) for at in range(len(ring))]
    pairs = [(one, other) for one, other in pairs if signs[one] + signs[other] in ("+-", "-+")]
    return [laid_over(one, other) + "0" for one, other in pairs]


def signs_of_thing(system, thing):
    """The signing that a thing gives of the system without it."""
    check_system(system)
    check_thing(thing, system.many)
    if thing in system.pillars:
        raise Refused(("pillar", thing))
    known = {row[:thing] + row[thing + 1:]: row[thing] for row in system.cuts.rows}
    return {cut: known[cut] for cut in system.left_out((thing,)).cuts.rows}


def by_steps(system, steps):
    """The signing of some steps."""
    check_system(system)
    if not _are_steps(steps, system.many):
        raise InvalidOperation("not steps for the things of the system")
    return {cut: _sign_by_steps(cut, steps) for cut in system.cuts.rows}


def _are_steps(value, many):
    """Whether the value is a tuple of pairs of unlike things and signs."""
    if not isinstance(value, tuple) or not all([_is_step(step, many) for step in value]):
        return False
    return len({step[0] for step in value}) == len(value)


def _is_step(value, many):
    if not isinstance(value, tuple) or len(value) != 2:
        return False
    return is_between(value[0], 0, many - 1) and _is_sign(value[1], "+-")


def _sign_by_steps(cut, steps):
    for thing, sign in steps:
        if cut[thing] != "0":
            return sign if cut[thing] == "+" else turned_signs(sign)
    return "0"


def through(system, one, other):
    """A right signing that is "0" at two cuts, and not at all."""
    check_system(system)
    for row in (one, other):
        if row not in system.cuts:
            raise InvalidRow("not a cut of the system")
    if system.rank != 3:
        raise Refused(("rank",))
    zeros = (lesser_cut(one), lesser_cut(other))
    order = _order_by_rings(all_rings(system), zeros)
    tests = tests_by_cut(list(all_rings(system).values()), order)
    for signs in right_signs(order, tests, zeros):
        if signs.strip("0") != "":
            return _signing(system, order, signs)
    return None


def _order_by_rings(rings, firsts):
    """The lesser cuts, some of them first, then ring by ring, so that each ring is soon whole."""
    order = {cut: True for cut in firsts}
    for ring in rings.values():
        order.update({lesser_cut(cut): True for cut in ring})
    return list(order)


def _signing(system, order, signs):
    """The signing with some signs at the lesser cuts, in an order."""
    known = {cut: signs[place] for place, cut in enumerate(order)}
    return {cut: known[cut] if cut in known else turned_signs(known[turned_signs(cut)]) for cut in system.cuts.rows}


def all_ways(system):
    """Yield all right signings, in the order of their signs at all cuts."""
    check_system(system)
    if len(system.cuts) > 2 * MAX_PAIRS:
        raise TooMany(MAX_PAIRS)
    # The lesser ones of turned cuts come first, and tell the signs of the others.
    order = [cut for cut in system.cuts.rows if cut == lesser_cut(cut)]
    tests = tests_by_cut(list(all_rings(system).values()), order)
    for signs in right_signs(order, tests, ()):
        yield _signing(system, order, signs)
