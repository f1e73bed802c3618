"""Drawings of systems by tables, and comparisons that bar them."""

from sidesigns.draw.rings import ring_of
from sidesigns.draw.tableaus import unknowns_or_factors
from sidesigns.errors import InvalidOperation, Refused, TooMany
from sidesigns.integers import is_short
from sidesigns.rows.codes import mask_of_things
from sidesigns.system.signrules import NUMBERS, numbers_by_mask
from sidesigns.system.systems import check_system
from sidesigns.table.tables import Table, check_table
from sidesigns.things import is_ascending, lots_among, lots_of, others_than

MAX_COMPARED = 210


def is_drawn_by(system, table):
    """Whether a table draws a system."""
    check_system(system)
    check_table(table)
    return does_draw(table, system)


def does_draw(table, system):
    """Whether a table draws a system; both are known to be such."""
    return (table.many, table.rank, table.signs) == (system.many, system.rank, system.signs)


def comparisons(system):
    """The ascending tuple of all comparisons of a system."""
    check_system(system)
    return tuple(_comparisons(system))


def _comparisons(system):
    """The ascending list of all comparisons."""
    if system.rank < 2:
        return []
    numbers = numbers_by_mask(system.many, system.rank, system.signs)
    found = []
    for lot in lots_of(system.many, system.rank - 2):
        for four in lots_among(others_than(lot, system.many), 4):
            found.extend(_told_by_products(numbers, lot, four))
    return sorted(found)


def _told_by_products(numbers, lot, four):
    """The comparisons that the three products of a lot and four other things tell."""
    a, b, c, d = four
    signed = [(_pair_with(lot, (a, b), (c, d)), 1), (_pair_with(lot, (a, c), (b, d)), -1),
              (_pair_with(lot, (a, d), (b, c)), 1)]
    products = {pair: sign * _product(numbers, pair) for pair, sign in signed}
    pairs = [pair for pair in products if products[pair] != 0]
    if len(pairs) < 3:
        # One product alone is never other than 0.
        return [("equal", min(pairs), max(pairs))] if len(pairs) == 2 else []
    whole = sum(list(products.values()))
    great = [pair for pair in pairs if products[pair] == -whole][0]
    return [("less", pair, great) for pair in pairs if pair != great]


def _pair_with(lot, one, other):
    """The ascending pair of the lot with two things and of the lot with two others."""
    return tuple(sorted([tuple(sorted(lot + one)), tuple(sorted(lot + other))]))


def _product(numbers, pair):
    one, other = pair
    return numbers[mask_of_things(one)] * numbers[mask_of_things(other)]


def _looked_at(system, only):
    """The comparisons that are looked at, as a list."""
    known = _comparisons(system)
    if only is None:
        return known
    found = {one: True for one in known}
    if not isinstance(only, tuple) or not all([_is_among(found, one, system.many) for one in only]):
        raise InvalidOperation("not a tuple of comparisons of the system")
    if not all([only[at] < only[at + 1] for at in range(len(only) - 1)]):
        raise InvalidOperation("not an ascending tuple of comparisons")
    return list(only)


def _is_among(found, value, many):
    """Whether the value is one of some comparisons."""
    if not isinstance(value, tuple) or len(value) != 3 or not isinstance(value[0], str):
        return False
    return _is_pair(value[1], many) and _is_pair(value[2], many) and value in found


def _is_pair(value, many):
    return isinstance(value, tuple) and len(value) == 2 and all([is_ascending(lot, many) for lot in value])


def weights_or_bar(system, *, only=None):
    """Weights that keep all comparisons looked at, or a bar of such comparisons."""
    check_system(system)
    looked = _looked_at(system, only)
    if len(looked) > MAX_COMPARED:
        raise TooMany(MAX_COMPARED)
    bases = sorted(list({base: True for _, one, other in looked for base in one + other}))
    if looked == []:
        return ("weights", {base: 0 for base in system.bases})
    zeros = [at for at, one in enumerate(looked) if one[0] == "equal"]
    unknowns, factors = unknowns_or_factors([_line_of(one, bases) for one in looked], zeros)
    if unknowns is None:
        return ("bar", {one: factor for one, factor in zip(looked, factors) if factor != 0})
    known = dict(zip(bases, unknowns))
    return ("weights", {base: known.get(base, 0) for base in system.bases})


def _line_of(comparison, bases):
    """For each base how often it stands in the second pair of a comparison, less how often in the first one."""
    _, one, other = comparison
    return [other.count(base) - one.count(base) for base in bases]


def is_weights(system, value, *, only=None):
    """Whether the value is weights that keep all comparisons looked at."""
    check_system(system)
    looked = _looked_at(system, only)
    if not isinstance(value, dict) or len(value) != len(system.bases):
        return False
    if not all([is_ascending(base, system.many) for base in value]):
        return False
    if not all([base in value and is_short(value[base]) for base in system.bases]):
        return False
    return all([_is_kept(value, one) for one in looked])


def _is_kept(weights, comparison):
    word, pair, other = comparison
    sums = [weights[lot[0]] + weights[lot[1]] for lot in (pair, other)]
    return sums[0] < sums[1] if word == "less" else sums[0] == sums[1]


def is_bar(system, value):
    """Whether the value is a bar of a system."""
    check_system(system)
    found = {one: True for one in _comparisons(system)}
    if not isinstance(value, dict) or not all([_is_among(found, one, system.many) for one in value]):
        return False
    if not all([is_short(factor) and factor != 0 for factor in value.values()]):
        return False
    less = [factor for one, factor in value.items() if one[0] == "less"]
    return less != [] and min(less) > 0 and _is_balanced(value)


def _is_balanced(bar):
    """Whether the integers of a bar have equal sums in both pairs for each base."""
    sums = {}
    for (_, one, other), factor in bar.items():
        for base in one:
            sums[base] = sums.get(base, 0) + factor
        for base in other:
            sums[base] = sums.get(base, 0) - factor
    return all([total == 0 for total in sums.values()])


def points_of(system):
    """A table that draws a system."""
    check_system(system)
    if system.rank <= 2:
        return Table(system.many, _rows_of_low_rank(system))
    if system.many - system.rank > 2:
        raise Refused(("size",))
    return Table(system.many, _rows_of_low_rank(~system)).upright_table()


def _rows_of_low_rank(system):
    """The rows of a table that draws a system of a rank of at most 2."""
    if system.rank == 0:
        return ()
    if system.rank == 1:
        return (tuple([NUMBERS[sign] for sign in system.signs]),)
    columns = [(0, 0)] * system.many
    for at, group in enumerate(ring_of(system)):
        for thing, sign in group:
            columns[thing] = (NUMBERS[sign], NUMBERS[sign] * at)
    return tuple([tuple([column[row] for column in columns]) for row in range(2)])
