"""Base signs in general place: what turning one of them breaks, and all such signs."""

from sidesigns.rows.codes import mask_of_things
from sidesigns.rows.signs import turned_signs, with_first_plus
from sidesigns.system.signrules import are_products_kept, numbers_by_mask
from sidesigns.things import lots_among, lots_of, others_than


def is_barring(numbers, base, lot, four):
    """Whether a lot and four other things bar that a base with things of both is turned."""
    mask = mask_of_things(base)
    turned_numbers = dict(numbers)
    turned_numbers[mask] = -numbers[mask]
    return not are_products_kept(turned_numbers, mask_of_things(lot), four)


def first_barring(many, rank, signs, base):
    """The lot and the four things that bar that a base is turned, or None."""
    numbers = numbers_by_mask(many, rank, signs)
    for lot in lots_among(base, rank - 2):
        rest = [thing for thing in base if thing not in lot]
        for pair in lots_among(others_than(base, many), 2):
            four = tuple(sorted([*rest, *pair]))
            if is_barring(numbers, base, lot, four):
                return (lot, four)
    return None


def signs_turned_at(many, rank, signs, base):
    """The base signs where that of a base is turned."""
    at = lots_of(many, rank).index(base)
    return with_first_plus(signs[:at] + turned_signs(signs[at]) + signs[at + 1:])


def turns_from(many, rank, signs):
    """The bases that can be turned, ascending, each with the signs to which this leads."""
    bases = [base for base in lots_of(many, rank) if first_barring(many, rank, signs, base) is None]
    return {base: signs_turned_at(many, rank, signs, base) for base in bases}


def ways_between(many, rank, start, goal):
    """How many turns at least lead to the goal, from the start and from all signs that are as near."""
    ways = {goal: 0}
    level = [goal]
    while start not in ways:
        reached = {}
        for signs in level:
            # Turning the same base leads back, so the ways are the same from either end.
            reached.update({other: ways[signs] + 1 for other in turns_from(many, rank, signs).values()})
        level = [signs for signs in reached if signs not in ways]
        ways.update({signs: reached[signs] for signs in level})
    return ways


def all_general_signs(many, rank):
    """The base signs of all systems in general place with a rank, ascending."""
    tests = _tests_by_place(many, rank)
    tables = ["+"]
    for place in range(1, len(tests)):
        longer = [signs + sign for signs in tables for sign in "+-"]
        tables = [signs for signs in longer if _are_kept(signs, tests[place])]
    return tables


def _tests_by_place(many, rank):
    """For each place the products of signs, told by their places, that this sign makes whole."""
    lots = lots_of(many, rank)
    places = {mask_of_things(lot): place for place, lot in enumerate(lots)}
    tests = [[] for _ in lots]
    if rank >= 2:
        for lot in lots_of(many, rank - 2):
            for four in lots_among(others_than(lot, many), 4):
                test = _places_of_products(places, mask_of_things(lot), four)
                tests[max(test)].append(test)
    return tests


def _places_of_products(places, things, four):
    a, b, c, d = [1 << thing for thing in four]
    pairs = [a | b, c | d, a | c, b | d, a | d, b | c]
    return [places[things | pair] for pair in pairs]


def _are_kept(signs, tests):
    """Whether the products of some tests are neither all "+" nor all "-"."""
    for a, b, c, d, e, f in tests:
        if (signs[a] == signs[b]) == (signs[c] != signs[d]) == (signs[e] == signs[f]):
            return False
    return True
