"""Equations modulo 2: each is a mask with a bit for each unknown that stands in it.

Above the bits of the unknowns stands the bit that the sum is to have. Further bits
above it go along when equations are added.
"""


def first_bit(line):
    """The least bit of an equation."""
    return line & -line


def cleared(pivots, line):
    """The equation with others added, so that it has none of their first bits."""
    for bit, other in pivots.items():
        if line & bit != 0:
            line = line ^ other
    return line


def solution(pivots, width):
    """The mask of unknowns, so many in all, that are 1 if all that is left free is 0."""
    ones = 0
    for bit in reversed(list(pivots)):
        rest = pivots[bit] & ~bit
        count = f"{rest & ones:b}".count("1") + (rest >> width & 1)
        if count % 2 == 1:
            ones = ones | bit
    return ones
