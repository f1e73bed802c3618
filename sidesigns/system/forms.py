"""Changes of names and signs, and the forms of systems."""

from sidesigns.errors import InvalidOperation, TooMany
from sidesigns.papers import is_told
from sidesigns.rows.basesigns import signs_by_lot
from sidesigns.rows.codes import code_of, mask_of
from sidesigns.rows.rows import MAX_THINGS, check_any_row, check_things, turned
from sidesigns.system.changes import least_signs, orders_of, things_to_turn
from sidesigns.system.checks import check_order
from sidesigns.system.ranks import things_in
from sidesigns.system.systems import check_other_system, check_system
from sidesigns.things import is_ascending, is_order

MAX_FORMED = 6


def led(system, order, things):
    """The system to which a change leads a system."""
    check_system(system)
    check_order(order, system.many)
    check_things(things, system.many)
    return system.renamed(order).turned_at(things)


def led_row(row, order, things):
    """The row to which a change leads a row."""
    check_any_row(row)
    check_order(order, len(row))
    check_things(things, len(row))
    return turned("".join([row[thing] for thing in order]), things)


def is_change(value):
    """Whether the value is a change of some number of things."""
    if not isinstance(value, tuple) or len(value) != 2 or not isinstance(value[0], tuple):
        return False
    many = len(value[0])
    return many <= MAX_THINGS and is_order(value[0], many) and is_ascending(value[1], many)


def _check_change(change):
    if not is_change(change):
        raise InvalidOperation("not a change")


def back_change(change):
    """The change that leads back."""
    _check_change(change)
    order, things = change
    back = [order.index(thing) for thing in range(len(order))]
    return (tuple(back), tuple(sorted([order[thing] for thing in things])))


def joined_changes(change, other):
    """The change that leads as a change does, and what this tells then as the other one."""
    _check_change(change)
    _check_change(other)
    order, things = change
    other_order, other_things = other
    if len(order) != len(other_order):
        raise InvalidOperation("not a change of equally many things")
    turns = [at for at, thing in enumerate(other_order) if (at in other_things) != (thing in things)]
    return (tuple([order[thing] for thing in other_order]), tuple(turns))


def parts_of(system):
    """The parts into which the things fall, by their first things."""
    check_system(system)
    rounds = {mask_of(code_of(row)): True for row in system.rounds.rows}
    masks = []
    for thing in range(system.many):
        if not any([mask >> thing & 1 == 1 for mask in masks]):
            masks.append(_with_hanging(rounds, 1 << thing))
    return tuple([things_in(mask) for mask in masks])


def _with_hanging(rounds, mask):
    """The mask of all things that hang together with one."""
    # Each thing that hangs together with one thing stands in a round with it.
    whole = mask
    for other in rounds:
        if other & mask != 0:
            whole = whole | other
    return whole


def form_of(system):
    """The form of a system."""
    check_system(system)
    return _form(system, system.signs)


def _form(system, signs):
    return f"{system.many} {system.rank} {signs}"


def _check_formed(system):
    if system.many > MAX_FORMED:
        raise TooMany(MAX_FORMED)


def least_form(system):
    """The first form of the systems to which changes lead a system."""
    check_system(system)
    _check_formed(system)
    return _form(system, least_signs(system.many, system.rank, system.signs))


def _check_two(one, other):
    check_system(one)
    check_other_system(other, one.many)
    _check_formed(one)


def form_paper(one, other):
    """A change that leads one system to the other, or both least forms."""
    _check_two(one, other)
    if one.rank == other.rank:
        told, goal = _told(one), _told(other)
        for order in orders_of(one.many):
            things = things_to_turn(told, goal, order)
            if things is not None:
                return ("led", order, things)
    return ("forms", least_form(one), least_form(other))


def _told(system):
    return (system.many, signs_by_lot(system.many, system.rank, system.signs))


def is_form_paper(one, other, value):
    """Whether the value is such a paper."""
    _check_two(one, other)
    if is_told(value, "led", 3):
        return is_change(value[1:]) and len(value[1]) == one.many and led(one, value[1], value[2]) == other
    if is_told(value, "forms", 3):
        return least_form(one) != least_form(other) and value[1:] == (least_form(one), least_form(other))
    return False


def own_changes(system):
    """Yield all own changes, ascending."""
    check_system(system)
    _check_formed(system)
    parts = parts_of(system)
    told = _told(system)
    for order in orders_of(system.many):
        things = things_to_turn(told, told, order)
        if things is not None:
            for turns in _joined_with_parts(parts, things):
                yield (order, turns)


def _joined_with_parts(parts, things):
    """The things, turned at each choice of parts, ascending."""
    lots = [things]
    for part in parts:
        lots = lots + [_unlike(lot, part) for lot in lots]
    return sorted(lots)


def _unlike(lot, other):
    """The things that stand in just one of two lots."""
    more = [thing for thing in other if thing not in lot]
    return tuple(sorted([thing for thing in lot if thing not in other] + more))


def own_count(system):
    """The number of all own changes."""
    check_system(system)
    _check_formed(system)
    told = _told(system)
    orders = [order for order in orders_of(system.many) if things_to_turn(told, told, order) is not None]
    return len(orders) << len(parts_of(system))
