"""Numbers of bases and of flats that tell how many regions there are."""

from sidesigns.system.ranks import base_masks, flats_by_rank, things_in


def active_counts_of(bases, many):
    """How many bases have which numbers of inner and of outer active things."""
    known = {mask: True for mask in base_masks(bases)}
    counts = {}
    for mask in known:
        pair = _two_numbers(known, mask, many)
        counts[pair] = counts.get(pair, 0) + 1
    return {pair: counts[pair] for pair in sorted(list(counts))}


def _two_numbers(known, mask, many):
    """How many things are inner active, and how many outer active."""
    numbers = [0, 0]
    for thing in range(many):
        kind = 0 if mask >> thing & 1 == 1 else 1
        if not _has_lower(known, mask, thing):
            numbers[kind] = numbers[kind] + 1
    return (numbers[0], numbers[1])


def _has_lower(known, mask, thing):
    """Whether a lower thing can be exchanged with a thing of a base, or with one outside of it."""
    # Just these things stand in the cut, or the round, of the base and the thing.
    is_inside = mask >> thing & 1
    for other in range(thing):
        if mask >> other & 1 != is_inside and mask ^ 1 << thing ^ 1 << other in known:
            return True
    return False


def sums_of_flats(bases, many):
    """For each flat the integer with which those of the flats within it add up to 0."""
    masks = [mask for level in flats_by_rank(base_masks(bases), many) for mask in level]
    sums = {}
    for mask in masks:
        below = sum([number for other, number in sums.items() if other & mask == other])
        sums[mask] = -below if len(sums) > 0 else 1
    told = {things_in(mask): number for mask, number in sums.items()}
    return {lot: told[lot] for lot in sorted(list(told))}
