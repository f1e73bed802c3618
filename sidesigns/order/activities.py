"""Orders of the things, active things of bases and of rows, and best bases."""

from sidesigns.errors import InvalidOperation, InvalidRow, Refused
from sidesigns.region.counting import active_counts_of
from sidesigns.region.regions import bounded_regions
from sidesigns.rows.codes import code_of, has_within
from sidesigns.rows.rows import check_row
from sidesigns.system.checks import check_base, check_order
from sidesigns.system.systems import check_system
from sidesigns.things import is_ascending


def _check_order(system, order):
    check_system(system)
    check_order(order, system.many)


def _check_base(system, order, base):
    _check_order(system, order)
    check_base(base, system.many, system.bases)


def _lowest(row, order):
    """The lowest thing of a row in an order."""
    return [thing for thing in order if row[thing] != "0"][0]


def _rows_of_base(system, base):
    """For each thing the cut of a base and this thing, or the round of the base and it."""
    return [system.cut_of(base, thing) if thing in base else system.round_of(base, thing)
            for thing in range(system.many)]


def _active_things(rows, order):
    """The ascending list of the things that are the lowest ones of their rows of a base."""
    return [thing for thing, row in enumerate(rows) if _lowest(row, order) == thing]


def inner(system, order, base):
    """The ascending tuple of the inner active things of a base."""
    _check_base(system, order, base)
    return tuple([thing for thing in _active_things(_rows_of_base(system, base), order) if thing in base])


def outer(system, order, base):
    """The ascending tuple of the outer active things of a base."""
    _check_base(system, order, base)
    return tuple([thing for thing in _active_things(_rows_of_base(system, base), order) if thing not in base])


def active_counts(system, order):
    """How many bases have which numbers of inner and outer active things."""
    _check_order(system, order)
    places = {thing: place for place, thing in enumerate(order)}
    bases = [[places[thing] for thing in base] for base in system.bases]
    return active_counts_of(bases, system.many)


def row_active(system, order, row):
    """The cut active things and the round active things for a row."""
    _check_order(system, order)
    check_row(row, system.many)
    if "0" in row:
        raise InvalidRow("not a row with a sign other than 0 for each thing")
    return (_lowest_within(system.cuts, order, row), _lowest_within(system.rounds, order, row))


def _lowest_within(lot, order, row):
    """The ascending things that are the lowest ones of rows that a row has all signs of."""
    code = code_of(row)
    rows = [one for one in lot.rows if has_within(code, [code_of(one)])]
    return tuple(sorted(list({_lowest(one, order): True for one in rows})))


def _bounded(system, order):
    """The ascending tuple of the regions that are bounded for an order."""
    if order == ():
        return ()
    return bounded_regions(system, order[0])


def _check_bounded(system, order, region):
    _check_order(system, order)
    check_row(region, system.many)
    if region not in _bounded(system, order):
        raise InvalidOperation("not a region that is bounded for the order")


def _is_best_base(system, order, region, base):
    """Whether a base is the best one of a bounded region."""
    if order[0] not in base:
        return False
    for thing, row in enumerate(_rows_of_base(system, base)):
        if thing != order[0]:
            low = _lowest(row, order)
            # This fails, too, where the thing itself is the lowest one.
            if (row[low] == row[thing]) == (region[low] == region[thing]):
                return False
    return True


def best_base(system, order, region):
    """The best base of a bounded region."""
    _check_bounded(system, order, region)
    return _best_bases(system, order)[region]


def is_best(system, order, region, value):
    """Whether the value is the best base of a bounded region."""
    _check_bounded(system, order, region)
    if not is_ascending(value, system.many) or value not in system.bases:
        return False
    return _is_best_base(system, order, region, value)


def region_of(system, order, base):
    """The bounded region of which a base is the best one."""
    _check_base(system, order, base)
    rows = _rows_of_base(system, base)
    numbers = _active_numbers(rows, order, base)
    if numbers != (1, 0):
        raise Refused(("active", *numbers))
    return _region_told(rows, order)


def _active_numbers(rows, order, base):
    """How many things are inner active for a base, and how many outer active."""
    active = _active_things(rows, order)
    count = len([thing for thing in active if thing in base])
    return (count, len(active) - count)


def _region_told(rows, order):
    """The region that the rows of a base tell thing by thing, by their signs at their lowest things."""
    region = ["+"] * len(order)
    for thing in order[1:]:
        row = rows[thing]
        low = _lowest(row, order)
        region[thing] = "+" if (row[low] == row[thing]) == (region[low] == "-") else "-"
    return "".join(region)


def best_bases(system, order):
    """The best bases of all bounded regions."""
    _check_order(system, order)
    known = _best_bases(system, order)
    return {region: known[region] for region in sorted(list(known))}


def _best_bases(system, order):
    """The best bases by their regions: each base with the numbers 1 and 0 tells one."""
    known = {}
    for base in system.bases:
        rows = _rows_of_base(system, base)
        if _active_numbers(rows, order, base) == (1, 0):
            known[_region_told(rows, order)] = base
    return known
