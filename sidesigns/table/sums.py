"""Exact sums of multiples of tuples of integers, and determinants."""

from math import gcd

from sidesigns.things import lots_of, without


def dependences(vectors):
    """For each vector, how it depends on those ahead of it, or None if it does not.

    It is told by factors, one for each vector, without a common divisor: the
    vectors, multiplied by them, add up to 0. The last factor other than 0 is
    that of the vector itself and is above 0; the others stand at vectors that
    do not depend.
    """
    kept = []
    told = []
    for at, vector in enumerate(vectors):
        width = len(vector)
        unit = [1 if other == at else 0 for other in range(len(vectors))]
        line = _cleared(list(vector) + unit, kept)
        place = _first_place(line, width)
        if place is None:
            told.append(_with_own_above(line[width:], line[width + at]))
        else:
            told.append(None)
            kept.append((place, line))
    return told


def _cleared(line, kept):
    """The line with multiples of the kept ones added, so that it is 0 at their places."""
    for place, other in kept:
        if line[place] != 0:
            line = _primitive(_joined(line, other[place], other, -line[place]))
    return line


def _joined(line, factor, other, other_factor):
    return [mine * factor + theirs * other_factor for mine, theirs in zip(line, other)]


def _primitive(line):
    """The line divided by the greatest common divisor of its integers."""
    common = 0
    for value in line:
        common = gcd(common, value)
    return [value // common for value in line]


def _first_place(line, width):
    for place in range(width):
        if line[place] != 0:
            return place
    return None


def _with_own_above(factors, own):
    if own > 0:
        return tuple(factors)
    return tuple([-factor for factor in factors])


def minors(rows, many):
    """The determinants of the rows in each ascending lot of as many columns."""
    known = {(): 1}
    for size, row in enumerate(rows):
        known = {lot: _expanded(known, lot, row) for lot in lots_of(many, size + 1)}
    return known


def _expanded(known, lot, row):
    """A determinant from those of the rows ahead, expanded along its last row."""
    total = 0
    for at, thing in enumerate(lot):
        part = row[thing] * known[without(lot, at)]
        if (len(lot) - at) % 2 == 1:
            total = total + part
        else:
            total = total - part
    return total
