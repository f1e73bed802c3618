"""Systems in general place: simplexes, and bases that can be turned."""

from sidesigns.errors import InvalidNumber, InvalidSystem, Refused, TooMany
from sidesigns.integers import is_between
from sidesigns.papers import is_told
from sidesigns.place.signturns import (all_general_signs, first_barring, is_barring, signs_turned_at, turns_from,
                                       ways_between)
from sidesigns.rows.codes import both_signs, code_of
from sidesigns.system.checks import check_base
from sidesigns.system.signrules import numbers_by_mask
from sidesigns.system.systems import check_other_system, check_system, system_of
from sidesigns.things import is_ascending

MAX_ROW = 5
MAX_COUNTED = 6


def _check_place(system):
    """Refuse a system that is not in general place or cannot move."""
    if not system.is_general or not 2 <= system.rank <= system.many - 2:
        raise Refused(("place",))


def _check_turn(system, base):
    check_system(system)
    check_base(base, system.many, system.bases)
    _check_place(system)


def can_turn(system, base):
    """Whether a base can be turned."""
    _check_turn(system, base)
    return first_barring(system.many, system.rank, system.signs, base) is None


def turned_base(system, base):
    """The system in which a base is turned."""
    if not can_turn(system, base):
        raise Refused(("base",))
    signs = signs_turned_at(system.many, system.rank, system.signs, base)
    return system_of(system.many, system.rank, signs)


def turn_paper(system, base):
    """A simplex whose walls are a base, or what bars that the base is turned."""
    _check_turn(system, base)
    barring = first_barring(system.many, system.rank, system.signs, base)
    if barring is not None:
        return ("products", *barring)
    walls = _simplex_walls(system)
    return ("simplex", [region for region in walls if walls[region] == base][0])


def _simplex_walls(system):
    """The ascending simplexes, each with its walls."""
    codes = {code_of(row): row for row in system.regions().rows}
    found = {}
    for code, row in codes.items():
        walls = tuple([thing for thing in range(system.many) if code ^ both_signs(1 << thing) in codes])
        if len(walls) == system.rank:
            found[row] = walls
    return found


def is_turn_paper(system, base, value):
    """Whether the value is a right paper on whether a base can be turned."""
    _check_turn(system, base)
    if is_told(value, "simplex", 2):
        walls = _simplex_walls(system)
        return isinstance(value[1], str) and walls.get(value[1], ()) == base
    if is_told(value, "products", 3):
        return _are_products(system, base, value[1], value[2])
    return False


def _are_products(system, base, lot, four):
    """Whether a lot and four other things bar that a base is turned."""
    if not is_ascending(lot, system.many) or not is_ascending(four, system.many):
        return False
    if len(lot) != system.rank - 2 or len(four) != 4 or any([thing in lot for thing in four]):
        return False
    # A base that is not of the lot and two of the four stands in none of their products, so it breaks none.
    return is_barring(numbers_by_mask(system.many, system.rank, system.signs), base, lot, four)


def simplexes(system):
    """The ascending tuple of all simplexes."""
    check_system(system)
    _check_place(system)
    return tuple(list(_simplex_walls(system)))


def turning_row(one, other):
    """The shortest turning row from one system to another one, the least one of several."""
    check_system(one)
    check_other_system(other, one.many)
    if other.rank != one.rank:
        raise InvalidSystem("not a system of the same rank")
    _check_place(one)
    _check_place(other)
    if one.many > MAX_ROW:
        raise TooMany(MAX_ROW)
    signs = one.signs
    ways = ways_between(one.many, one.rank, signs, other.signs)
    row = []
    while signs != other.signs:
        turns = turns_from(one.many, one.rank, signs)
        row.append([base for base in turns if ways.get(turns[base], ways[signs]) < ways[signs]][0])
        signs = turns[row[-1]]
    return tuple(row)


def _check_numbers(many, most, rank):
    if not is_between(many, 0, most):
        raise InvalidNumber(many)
    if not is_between(rank, 0, many):
        raise InvalidNumber(rank)


def sign_tables(many, rank):
    """Yield the base signs of all systems in general place with so many things and a rank, ascending."""
    _check_numbers(many, MAX_ROW, rank)
    yield from all_general_signs(many, rank)


def table_count(many, rank):
    """How many systems in general place there are with so many things and a rank."""
    _check_numbers(many, MAX_COUNTED, rank)
    return len(all_general_signs(many, rank))
