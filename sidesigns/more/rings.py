"""Lines of systems, their rings of cuts, and signs along these."""

from sidesigns.rows.codes import code_of, turned_code
from sidesigns.rows.signs import turned_signs
from sidesigns.system.ranks import base_masks, flats_by_rank, sorted_lots


def all_lines(system):
    """The ascending tuple of all lines."""
    if system.rank < 2:
        return ()
    return tuple(sorted_lots(flats_by_rank(base_masks(system.bases), system.many)[system.rank - 2]))


def ring_of_line(system, line):
    """The cuts of a line along its ring, from the least one to the lesser one of its neighbours."""
    cuts = [row for row in system.cuts.rows if all([row[thing] == "0" for thing in line])]
    near = _neighbours(cuts)
    ring = [cuts[0], near[cuts[0]][0]]
    while len(ring) < len(cuts):
        ring.append([row for row in near[ring[-1]] if row != ring[-2]][0])
    return tuple(ring)


def _neighbours(cuts):
    """For each cut of a line the ascending list of the two others from which it is nowhere apart."""
    codes = {row: code_of(row) for row in cuts}
    near = {}
    for row in cuts:
        against = turned_code(codes[row])
        near[row] = [other for other in cuts if other != row and codes[other] & against == 0]
    return near


def all_rings(system):
    """The rings of all lines."""
    return {line: ring_of_line(system, line) for line in all_lines(system)}


def half_of_ring(ring):
    """The first half of a ring; in the other one stand the turned cuts, in the same order."""
    return ring[:len(ring) // 2]


def right_halves(size):
    """The signs that a right signing can have along half a ring of twice so many cuts."""
    halves = ["0" * size]
    for at in range(size):
        for one, other in (("+", "-"), ("-", "+")):
            halves.append(one * at + other * (size - at))
            halves.append(one * at + "0" + other * (size - at - 1))
    return halves


def is_right_along(signs, ring):
    """Whether a signing is right on the line of a ring."""
    half = half_of_ring(ring)
    return "".join([signs[cut] for cut in half]) in right_halves(len(half))


def lesser_cut(cut):
    """The lesser one of a cut and its turned row."""
    return min(cut, turned_signs(cut))


def tests_by_cut(rings, order):
    """For each place of an order of the lesser cuts, what signs up to there have to be.

    Each test is a pair of places and of the signs that are right at them.
    """
    places = {cut: place for place, cut in enumerate(order)}
    tests = [[] for _ in order]
    for ring in rings:
        half = half_of_ring(ring)
        along = [places[lesser_cut(cut)] for cut in half]
        sorted_along = sorted(along)
        starts = {}
        for signs in right_halves(len(half)):
            told = {along[at]: _lesser_sign(half[at], sign) for at, sign in enumerate(signs)}
            whole = "".join([told[place] for place in sorted_along])
            starts.update({whole[:size]: True for size in range(len(whole) + 1)})
        for at, place in enumerate(sorted_along):
            tests[place].append((tuple(sorted_along[:at + 1]), starts))
    return tests


def _lesser_sign(cut, sign):
    """The sign at the lesser one of a cut and its turned row, from that at the cut."""
    if lesser_cut(cut) == cut:
        return sign
    return turned_signs(sign)


def right_signs(order, tests, zeros):
    """Yield the signs of all right signings at the cuts of an order, ascending, with "0" at some cuts."""
    waiting = [""]
    while waiting != []:
        signs = waiting.pop()
        if len(signs) == len(order):
            yield signs
        else:
            place = len(signs)
            for sign in "0" if order[place] in zeros else "0-+":
                if _is_right_so_far(signs + sign, tests[place]):
                    waiting.append(signs + sign)


def _is_right_so_far(signs, tests):
    for places, starts in tests:
        if "".join([signs[place] for place in places]) not in starts:
            return False
    return True
