"""Links of rounds and cuts, and the signs that they ask for.

The signs of rounds and cuts are unknowns modulo 2. A link tells that of the four
signs of its round and its cut at its two things an odd number is "-".
"""

from sidesigns.parity import cleared, first_bit, solution


def all_links(rounds, cuts):
    """The ascending list of all links."""
    links = []
    for lot in rounds:
        for cut in cuts:
            pair = tuple([thing for thing in lot if thing in cut])
            if len(pair) == 2:
                links.append((lot, cut, pair))
    return links


def _unknowns(link):
    """The names of the four signs of which a link tells."""
    lot, cut, pair = link
    return [("round", lot, thing) for thing in pair] + [("cut", cut, thing) for thing in pair]


def is_each_met_evenly(links):
    """Whether each round and thing, and each cut and thing, stand in evenly many links."""
    counts = {}
    for link in links:
        for name in _unknowns(link):
            counts[name] = counts.get(name, 0) + 1
    return all([count % 2 == 0 for count in counts.values()])


def judged_links(links):
    """Names of signs to be "-" so that all links hold, and None; or None and an odd lot of links."""
    bits = _bits_of_unknowns(links)
    width = len(bits)
    pivots = {}
    for at, link in enumerate(links):
        # The bit of the link itself tells in the end which links were added up.
        line = sum([1 << bits[name] for name in _unknowns(link)]) | 1 << width | 1 << width + 1 + at
        rest = cleared(pivots, line)
        if rest & (1 << width) - 1 != 0:
            pivots[first_bit(rest)] = rest
        elif rest >> width & 1 == 1:
            return (None, tuple([one for place, one in enumerate(links) if rest >> width + 1 + place & 1 == 1]))
    ones = solution(pivots, width)
    return ({name: True for name, bit in bits.items() if ones >> bit & 1 == 1}, None)


def _bits_of_unknowns(links):
    names = {name: True for link in links for name in _unknowns(link)}
    return {name: bit for bit, name in enumerate(names)}
