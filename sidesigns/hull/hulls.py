"""Hulls of lots of things in simple open systems."""

from sidesigns.errors import InvalidOperation, Refused
from sidesigns.papers import is_told
from sidesigns.rows.codes import LOW, SHIFT, code_of, mask_of, mask_of_things, size_of
from sidesigns.rows.rows import check_things, is_row
from sidesigns.system.checks import check_thing
from sidesigns.system.ranks import all_ranks, base_masks, sorted_lots, things_in
from sidesigns.system.systems import check_system
from sidesigns.system.viewing import is_upright_to_all
from sidesigns.things import all_lots


def _check_hulls(system):
    if not system.is_simple:
        raise Refused(("simple",))
    if not system.is_open:
        raise Refused(("open",))


def _check_lot(system, things):
    check_system(system)
    check_things(things, system.many)
    _check_hulls(system)


def _bindings(system):
    """The pairs of the masks that a round has with "+" and of the only thing that it has with "-"."""
    codes = [code_of(row) for row in system.rounds.rows if row.count("-") == 1]
    return [(code & LOW, code >> SHIFT) for code in codes]


def _hull_mask(bindings, mask):
    hull_mask = mask
    for plus, thing in bindings:
        if plus & mask == plus:
            hull_mask = hull_mask | thing
    return hull_mask


def _corner_mask(bindings, mask):
    """The mask of the things that are not in the hull of the others."""
    inner = 0
    for plus, thing in bindings:
        # No round has its only "-" among its "+", so such a round is one of the others.
        if plus & mask == plus:
            inner = inner | thing
    return mask & ~inner


def hull(system, things):
    """The ascending tuple of the things of the hull of a lot."""
    _check_lot(system, things)
    return things_in(_hull_mask(_bindings(system), mask_of_things(things)))


def corners(system, things):
    """The ascending tuple of the corners of a lot."""
    _check_lot(system, things)
    return things_in(_corner_mask(_bindings(system), mask_of_things(things)))


def _check_member(system, things, thing):
    check_system(system)
    check_things(things, system.many)
    check_thing(thing, system.many)
    _check_hulls(system)


def hull_paper(system, things, thing):
    """A paper on whether a thing is in the hull of a lot."""
    _check_member(system, things, thing)
    if thing in things:
        return ("member",)
    for row in system.rounds.rows:
        if _is_binding(row, things, thing):
            return ("round", row)
    return ("cut", [row for row in system.cuts.rows if _is_cutting_off(row, things, thing)][0])


def _is_binding(row, things, thing):
    """Whether a round has "-" at the thing alone, and "+" at things of the lot alone."""
    if row[thing] != "-" or row.count("-") != 1:
        return False
    return all([sign != "+" or at in things for at, sign in enumerate(row)])


def _is_cutting_off(row, things, thing):
    """Whether a cut has "-" at the thing, and at no thing of the lot."""
    return row[thing] == "-" and all([row[one] != "-" for one in things])


def is_hull_paper(system, things, thing, value):
    """Whether the value is a right paper on whether a thing is in the hull of a lot."""
    _check_member(system, things, thing)
    if thing in things:
        return is_told(value, "member", 1)
    if is_told(value, "round", 2):
        return value[1] in system.rounds and _is_binding(value[1], things, thing)
    if is_told(value, "cut", 2):
        return value[1] in system.cuts and _is_cutting_off(value[1], things, thing)
    return False


def convex_lots(system):
    """Yield all convex lots, by the numbers of their things, those of one number ascending."""
    check_system(system)
    _check_hulls(system)
    bindings = _bindings(system)
    for lot in all_lots(system.many):
        if _is_convex(bindings, mask_of_things(lot)):
            yield lot


def _is_convex(bindings, mask):
    return _hull_mask(bindings, mask) == mask


def free_lots(system):
    """Yield all free lots, by the numbers of their things, those of one number ascending."""
    check_system(system)
    _check_hulls(system)
    yield from _all_free(system)


def _all_free(system):
    """All free lots, by the numbers of their things."""
    bindings = _bindings(system)
    lots = [(lot, mask_of_things(lot)) for lot in all_lots(system.many)]
    return [lot for lot, mask in lots if _is_convex(bindings, mask) and _corner_mask(bindings, mask) == mask]


def free_sums(system):
    """The pair of two sums over all free lots: of 1 and -1, and of their numbers of things."""
    check_system(system)
    _check_hulls(system)
    sizes = [len(lot) for lot in _all_free(system)]
    first = sum([1 if size % 2 == 0 else -1 for size in sizes])
    return (first, sum([-size if size % 2 == 0 else size for size in sizes]))


def inner_things(system):
    """The ascending tuple of the inner things."""
    check_system(system)
    _check_hulls(system)
    masks = _plus_cuts(system)
    return tuple([thing for thing in range(system.many) if all([mask >> thing & 1 == 1 for mask in masks])])


def _plus_cuts(system):
    """The masks of the cuts that have no "-"."""
    return [mask_of(code_of(row)) for row in system.cuts.rows if "-" not in row]


def faces(system):
    """All faces, by their ranks, those of one rank ascending."""
    check_system(system)
    _check_hulls(system)
    return tuple([lot for masks in _faces_by_rank(system) for lot in sorted_lots(masks)])


def _faces_by_rank(system):
    """For each rank the masks of the faces."""
    whole = (1 << system.many) - 1
    # A view without "-" is some cuts without "-" laid over one another.
    found = {whole: True}
    for mask in _plus_cuts(system):
        more = {face & ~mask: True for face in found}
        found.update(more)
    ranks = all_ranks(base_masks(system.bases), system.many)
    levels = [[] for _ in range(system.rank + 1)]
    for face in found:
        levels[ranks[face]].append(face)
    return levels


def face_counts(system):
    """The tuple of the numbers of the faces of each rank."""
    check_system(system)
    _check_hulls(system)
    return tuple([len(masks) for masks in _faces_by_rank(system)])


def holders(system, things, thing):
    """All holders of a thing in a lot, by the numbers of their things, those of one number ascending."""
    _check_member(system, things, thing)
    lot = mask_of_things(things)
    masks = [plus for plus, other in _bindings(system) if other == 1 << thing and plus & lot == plus]
    if thing in things:
        masks.append(1 << thing)
    levels = [[mask for mask in masks if size_of(mask) == size] for size in range(system.many + 1)]
    return tuple([one for level in levels for one in sorted_lots(level)])


def _check_two_lots(system, one, other):
    check_system(system)
    check_things(one, system.many)
    check_things(other, system.many)
    if any([thing in one for thing in other]):
        raise InvalidOperation("not lots without common things")
    _check_hulls(system)


def parted(system, one, other):
    """A view that parts two lots, or a row in which they meet."""
    _check_two_lots(system, one, other)
    for row in system.rounds.rows:
        if _is_meeting(row, one, other):
            return ("sum", row)
    # If some view parts them, so does any region that it can be laid over, where it is laid over it.
    return ("view", [row for row in system.regions().rows if _is_parting(row, one, other)][0])


def _is_meeting(row, one, other):
    """Whether a row has "+" at things of the first lot alone, and "-" at things of the second one alone."""
    for thing, sign in enumerate(row):
        if sign == "+" and thing not in one or sign == "-" and thing not in other:
            return False
    return True


def _is_parting(row, one, other):
    """Whether a row has "+" at all things of the first lot, and "-" at all things of the second one."""
    return all([row[thing] == "+" for thing in one]) and all([row[thing] == "-" for thing in other])


def is_parted(system, one, other, value):
    """Whether the value is a view that parts two lots, or a row in which they meet."""
    _check_two_lots(system, one, other)
    if not isinstance(value, tuple) or len(value) != 2 or not is_row(value[1], system.many):
        return False
    word, row = value
    if word == "view":
        return _is_parting(row, one, other) and is_upright_to_all(row, system.rounds.rows)
    if word == "sum":
        return row.strip("0") != "" and _is_meeting(row, one, other) and is_upright_to_all(row, system.cuts.rows)
    return False
