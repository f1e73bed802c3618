"""Rings, which tell systems of the rank 2, and alternating systems."""

from math import comb

from sidesigns.errors import InvalidNumber, InvalidOperation, Refused
from sidesigns.integers import is_between
from sidesigns.rows.basesigns import signs_by_lot
from sidesigns.rows.rows import check_many, check_things
from sidesigns.rows.signs import times, turned_times
from sidesigns.system.signtables import sign_of_order
from sidesigns.system.systems import check_system, system_of
from sidesigns.things import all_lots, lots_of, others_than

MAX_FORMED = 9


def ring_of(system):
    """The ring of a system of the rank 2."""
    check_system(system)
    if system.rank != 2:
        raise Refused(("rank", system.rank))
    known = signs_by_lot(system.many, 2, system.signs)
    classes = system.alike
    signs = _signs_in_ring(known, classes)
    # No two groups have equally many ahead of them.
    groups = {len([lot for lot in classes if _is_ahead(known, signs, lot[0], group[0])]): group for group in classes}
    return tuple([tuple([(thing, signs[thing]) for thing in groups[at]]) for at in range(len(groups))])


def _signs_in_ring(known, classes):
    """The sign of each thing in the ring, from the classes of alike things."""
    # The things of the first group stand ahead of all others, and both first things have "+".
    first, second = classes[0][0], classes[1][0]
    signs = {thing: sign_of_order(known, (thing, second)) for thing in classes[0]}
    signs.update({thing: sign_of_order(known, (first, thing)) for lot in classes[1:] for thing in lot})
    return signs


def _is_ahead(known, signs, one, other):
    """Whether the group of a thing stands ahead of that of another one."""
    return sign_of_order(known, (one, other)) == times(signs[one], signs[other])


def _check_ring(many, ring):
    if not is_ring(many, ring):
        raise InvalidOperation("not a ring of so many things")


def is_ring(many, value):
    """Whether the value is a ring of so many things."""
    check_many(many)
    return _is_ring_or_mirrored(many, value) and min([group[0] for group in value[1:]])[1] == "+"


def _is_ring_or_mirrored(many, value):
    """Whether the value is a ring, if the least thing outside of the first group may have "-"."""
    if not isinstance(value, tuple) or len(value) < 2 or not all([_is_group(group, many) for group in value]):
        return False
    things = [thing for group in value for thing, _ in group]
    if len(set(things)) != len(things):
        return False
    return value[0][0] == (min(things), "+")


def _is_group(value, many):
    """Whether the value is a tuple of pairs of things and signs, ascending by the things."""
    if not isinstance(value, tuple) or value == () or not all([_is_pair(pair, many) for pair in value]):
        return False
    return all([value[at][0] < value[at + 1][0] for at in range(len(value) - 1)])


def _is_pair(value, many):
    if not isinstance(value, tuple) or len(value) != 2:
        return False
    return is_between(value[0], 0, many - 1) and value[1] in ("+", "-")


def system_of_ring(many, ring):
    """The system of so many things that a ring tells."""
    _check_ring(many, ring)
    groups = {thing: at for at, group in enumerate(ring) for thing, _ in group}
    signs = {thing: sign for group in ring for thing, sign in group}
    return system_of(many, 2, "".join([_base_sign(groups, signs, lot) for lot in lots_of(many, 2)]))


def _base_sign(groups, signs, lot):
    """The base sign of two things, from the indices of their groups and their signs."""
    one, other = lot
    if one not in groups or other not in groups or groups[one] == groups[other]:
        return "0"
    return turned_times(times(signs[one], signs[other]), 0 if groups[one] < groups[other] else 1)


def ring_count(many):
    """How many systems of the rank 2 there are with so many things."""
    check_many(many)
    orders = _order_counts(many)
    return sum([comb(many, size) * (2 * orders[size - 1] - 1) << size - 2 for size in range(2, many + 1)])


def _order_counts(many):
    """For each number of things the number of ways to put them into an order of groups."""
    counts = [1]
    for size in range(1, many + 1):
        counts.append(sum([comb(size, first) * counts[size - first] for first in range(1, size + 1)]))
    return counts


def _marks(ring):
    """The marks of the things of a ring."""
    size = len(ring)
    return {thing: at if sign == "+" else at + size for at, group in enumerate(ring) for thing, sign in group}


def _check_marked(many, ring):
    """Refuse what is no ring; mirrored ones have marks, too, and the document's example passes one."""
    check_many(many)
    if not _is_ring_or_mirrored(many, ring):
        raise InvalidOperation("not a ring of so many things")


def does_balance(many, ring, things):
    """Whether a lot of things balances in a ring."""
    _check_marked(many, ring)
    check_things(things, many)
    return _is_balanced(_marks(ring), len(ring), things)


def _is_balanced(marks, size, things):
    """Whether a lot of things balances in a ring of so many groups."""
    found = sorted(list({marks[thing]: True for thing in things if thing in marks}))
    if len({mark % size for mark in found}) <= 1:
        return len(found) != 1
    gaps = [(found[at] - found[at - 1]) % (2 * size) for at in range(len(found))]
    return max(gaps) < size


def ring_faces(many, ring):
    """The lots where views without "-" of the opposite system are "0", ascending."""
    _check_marked(many, ring)
    marks = _marks(ring)
    return tuple(sorted([lot for lot in all_lots(many) if _is_balanced(marks, len(ring), others_than(lot, many))]))


def alternating(many, rank):
    """The system of which each base has the sign "+", in general place."""
    check_many(many)
    if not is_between(rank, 0, many):
        raise InvalidNumber(rank)
    return system_of(many, rank, "+" * comb(many, rank))


def is_gap_even(many, things):
    """Whether a lot has evenly many things between any two other ones."""
    check_many(many)
    check_things(things, many)
    return _is_even(many, things)


def _is_even(many, things):
    rest = others_than(things, many)
    return all([(rest[at + 1] - rest[at]) % 2 == 1 for at in range(len(rest) - 1)])


def even_lots(many, size):
    """All even lots of so many of the things, ascending."""
    check_many(many)
    if not is_between(size, 0, many):
        raise InvalidNumber(size)
    return tuple([lot for lot in lots_of(many, size) if _is_even(many, lot)])
