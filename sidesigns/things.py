"""Ascending tuples of things."""

from sidesigns.integers import is_between


def is_ascending(value, many):
    """Whether the value is an ascending tuple of things below their number."""
    if not isinstance(value, tuple):
        return False
    least = 0
    for thing in value:
        if not is_between(thing, least, many - 1):
            return False
        least = thing + 1
    return True


def behind(lot):
    """The first thing that is greater than all things of an ascending lot."""
    if lot == ():
        return 0
    return lot[-1] + 1


def lots_of(many, size):
    """The ascending lots of so many of the things, in Python's order."""
    lots = [()]
    for _ in range(size):
        lots = [lot + (thing,) for lot in lots for thing in range(behind(lot), many)]
    return lots


def without(lot, at):
    """The lot without the thing at an index."""
    return lot[:at] + lot[at + 1:]
