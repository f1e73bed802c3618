"""Ranks and flats of lots of things, as masks."""

from sidesigns.rows.codes import mask_of_things, size_of


def things_in(mask):
    """The ascending tuple of the things of a mask."""
    return tuple([thing for thing in range(mask.bit_length()) if mask >> thing & 1 == 1])


def base_masks(bases):
    """The masks of bases."""
    return [mask_of_things(base) for base in bases]


def rank_within(masks, mask):
    """The greatest number of things of a lot that some base has."""
    return max([size_of(mask & base) for base in masks])


def flat_mask(masks, many, mask):
    """The mask of the flat of a lot of things."""
    rank = rank_within(masks, mask)
    flat = mask
    for thing in range(many):
        if rank_within(masks, mask | 1 << thing) == rank:
            flat = flat | 1 << thing
    return flat


def all_ranks(masks, many):
    """The ranks of all lots of things, by their masks."""
    free = _parts_of_bases(masks)
    ranks = [0] * (1 << many)
    for mask in range(1, 1 << many):
        if mask in free:
            ranks[mask] = size_of(mask)
        else:
            ranks[mask] = max([ranks[mask ^ 1 << thing] for thing in things_in(mask)])
    return ranks


def _parts_of_bases(masks):
    """The masks of all lots of things of a base."""
    found = {}
    level = {mask: True for mask in masks}
    while len(level) > 0:
        found.update(level)
        level = {mask ^ 1 << thing: True for mask in level for thing in things_in(mask)}
    return found


def flats_by_rank(masks, many):
    """For each rank the masks of its flats."""
    ranks = all_ranks(masks, many)
    levels = [[] for _ in range(ranks[-1] + 1)]
    for mask, rank in enumerate(ranks):
        if _is_flat(ranks, many, mask):
            levels[rank].append(mask)
    return levels


def _is_flat(ranks, many, mask):
    for thing in range(many):
        if mask >> thing & 1 == 0 and ranks[mask | 1 << thing] == ranks[mask]:
            return False
    return True


def sorted_lots(masks):
    """The lots of some masks, as ascending tuples, in Python's order."""
    return sorted([things_in(mask) for mask in masks])
