"""Regions: how many there are, how they lie, and systems told by them."""

from sidesigns.errors import InvalidOperation, InvalidRow, Refused
from sidesigns.region.counting import active_counts_of, sums_of_flats
from sidesigns.region.sides import all_sides, check_joined, is_web, rows_of_sides
from sidesigns.rows.codes import both_signs, code_of, has_within, mask_of_things
from sidesigns.rows.rows import apart, lot_of
from sidesigns.system.checks import check_thing
from sidesigns.system.regionrounds import system_with_regions
from sidesigns.system.systems import check_system

MAX_REGIONS = 512


def two_numbers(system):
    """How many bases have which numbers of inner and of outer active things."""
    check_system(system)
    return active_counts_of(system.bases, system.many)


def flat_sums(system):
    """For each flat the integer with which those of all flats within it add up to 0."""
    check_system(system)
    return sums_of_flats(system.bases, system.many)


def region_count(system):
    """The number of the regions."""
    check_system(system)
    # Each loop is outer active for each base, and can be left out.
    loops = len(system.loops)
    counts = active_counts_of(system.bases, system.many)
    return sum([count << pair[0] for pair, count in counts.items() if pair[1] == loops])


def bounded_count(system):
    """The number of the bases with one inner active and no outer active thing."""
    check_system(system)
    return active_counts_of(system.bases, system.many).get((1, 0), 0)


def bounded_regions(system, thing):
    """The ascending tuple of the regions that are bounded for a thing."""
    check_system(system)
    check_thing(thing, system.many)
    if len(system.loops) > 0:
        return ()
    # A cut with another sign than "+" there that can be laid over such a region has "0".
    cuts = [code_of(row) for row in system.cuts.rows if row[thing] == "0"]
    regions = [row for row in system.regions().rows if row[thing] == "+"]
    return tuple([row for row in regions if not has_within(code_of(row), cuts)])


def _region_codes(system):
    """The regions by their codes, ascending."""
    return {code_of(row): row for row in system.regions().rows}


def _check_region(region, regions):
    if not isinstance(region, str) or region not in list(regions.values()):
        raise InvalidRow("not a region of the system")


def _class_turns(system):
    """For each class of alike things what turns codes of regions at them."""
    return [both_signs(mask_of_things(lot)) for lot in system.alike]


def walls(system, region):
    """The ascending tuple of the walls of a region."""
    check_system(system)
    regions = _region_codes(system)
    _check_region(region, regions)
    code = code_of(region)
    classes = [lot for lot in system.alike if code ^ both_signs(mask_of_things(lot)) in regions]
    return tuple(sorted([thing for lot in classes for thing in lot]))


def parting_things(system, one, other):
    """The ascending tuple of the things at which two regions are apart."""
    check_system(system)
    regions = _region_codes(system)
    _check_region(one, regions)
    _check_region(other, regions)
    return apart(one, other)


def _turns_between(system, one, other):
    """The turns at the classes of alike things at which two regions are apart."""
    parted = both_signs(mask_of_things(apart(one, other)))
    return [turn for turn in _class_turns(system) if turn & parted != 0]


def steps(system, one, other):
    """A shortest row of steps from one region to another one."""
    check_system(system)
    regions = _region_codes(system)
    _check_region(one, regions)
    _check_region(other, regions)
    turns = _turns_between(system, one, other)
    code = code_of(one)
    row = [one]
    while turns != []:
        # Some class of those that part two regions always leads to a neighbour.
        first = [turn for turn in turns if code ^ turn in regions][0]
        turns = [turn for turn in turns if turn != first]
        code = code ^ first
        row.append(regions[code])
    return tuple(row)


def is_steps(system, one, other, value):
    """Whether the value is a shortest row of steps from one region to another one."""
    check_system(system)
    regions = _region_codes(system)
    _check_region(one, regions)
    _check_region(other, regions)
    turns = _turns_between(system, one, other)
    if not isinstance(value, tuple) or len(value) != len(turns) + 1:
        return False
    if not all([isinstance(row, str) and row in list(regions.values()) for row in value]):
        return False
    if value[0] != one or value[-1] != other:
        return False
    codes = [code_of(row) for row in value]
    return all([codes[at] ^ codes[at + 1] in turns for at in range(len(turns))])


def region_web(system):
    """For each region, ascending, the indices of its neighbours."""
    check_system(system)
    codes = list(_region_codes(system))
    return _web_of(codes, _class_turns(system))


def _web_of(codes, turns):
    """For each code of a region the ascending indices of those to which turns lead."""
    indices = {code: index for index, code in enumerate(codes)}
    return tuple([tuple(sorted([indices[code ^ turn] for turn in turns if code ^ turn in indices])) for code in codes])


def system_of_web(neighbours):
    """The simple system with a region web, with its regions in the order of the indices."""
    if not is_web(neighbours, MAX_REGIONS):
        raise InvalidOperation("not a tuple of neighbours")
    check_joined(neighbours)
    sides = all_sides(neighbours)
    rows = rows_of_sides(sides, len(neighbours))
    if rows is None:
        raise Refused(("web",))
    system = system_with_regions(lot_of(len(sides), rows))
    if system is None or not system.is_simple:
        raise Refused(("web",))
    turns = [both_signs(1 << thing) for thing in range(len(sides))]
    if _web_of([code_of(row) for row in rows], turns) != neighbours:
        raise Refused(("web",))
    return (system, tuple(rows))
