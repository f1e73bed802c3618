"""The rules that base signs keep."""

from sidesigns.rows.codes import mask_of_things
from sidesigns.things import lots_among, lots_of, others_than

NUMBERS = {"+": 1, "-": -1, "0": 0}


def keeps_rules(many, rank, signs):
    """Whether base signs, of which one is there, keep the rules of exchange and of products."""
    return first_exchange(many, rank, signs) is None and first_products(many, rank, signs) is None


def lots_with_signs(many, rank, signs):
    """The ascending list of the lots that have a sign."""
    return [lot for lot, sign in zip(lots_of(many, rank), signs) if sign != "0"]


def first_exchange(many, rank, signs):
    """The least paper on a broken rule of exchange, or None."""
    lots = lots_with_signs(many, rank, signs)
    masks = [mask_of_things(lot) for lot in lots]
    known = {mask: True for mask in masks}
    unmet = {}
    for at, lot in enumerate(lots):
        found = []
        for thing in lot:
            reach = _reach(known, masks[at] ^ 1 << thing, many)
            if reach not in unmet:
                unmet[reach] = [place for place, mask in enumerate(masks) if mask & reach == 0]
            found = found + [(lots[place], thing) for place in unmet[reach]]
        if found != []:
            other, thing = min(found)
            return ("exchange", lot, other, thing)
    return None


def _reach(known, part, many):
    """The mask of the things that make a lot that has a sign, if they are put in."""
    reach = 0
    for thing in range(many):
        if part >> thing & 1 == 0 and part | 1 << thing in known:
            reach = reach | 1 << thing
    return reach


def first_products(many, rank, signs):
    """The least paper on a broken rule of products, or None."""
    if rank < 2:
        return None
    numbers = numbers_by_mask(many, rank, signs)
    for lot in lots_of(many, rank - 2):
        things = mask_of_things(lot)
        for four in lots_among(others_than(lot, many), 4):
            if not are_products_kept(numbers, things, four):
                return ("products", lot, four)
    return None


def numbers_by_mask(many, rank, signs):
    """The signs of the lots as 1, -1 and 0, by their masks."""
    return {mask_of_things(lot): NUMBERS[sign] for lot, sign in zip(lots_of(many, rank), signs)}


def are_products_kept(numbers, things, four):
    """Whether the three products of a lot and four other things are as they have to be."""
    # In each product all four things stand behind the lot, so its place turns
    # either all three or none.
    a, b, c, d = [1 << thing for thing in four]
    p = numbers[things | a | b] * numbers[things | c | d]
    q = -numbers[things | a | c] * numbers[things | b | d]
    r = numbers[things | a | d] * numbers[things | b | c]
    return p == q == r == 0 or min(p, q, r) < 0 < max(p, q, r)
