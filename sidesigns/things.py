"""Ascending tuples of things."""

from sidesigns.integers import is_between


def is_ascending(value, many):
    """Whether the value is an ascending tuple of things below their number."""
    if not isinstance(value, tuple):
        return False
    least = 0
    for thing in value:
        if not is_between(thing, least, many - 1):
            return False
        least = thing + 1
    return True


def behind(lot):
    """The first thing that is greater than all things of an ascending lot."""
    if lot == ():
        return 0
    return lot[-1] + 1


def lots_of(many, size):
    """The ascending lots of so many of the things, in Python's order."""
    lots = [()]
    for _ in range(size):
        lots = [lot + (thing,) for lot in lots for thing in range(behind(lot), many)]
    return lots


def without(lot, at):
    """The lot without the thing at an index."""
    return lot[:at] + lot[at + 1:]


def lots_among(things, size):
    """The lots of so many of some ascending things, in Python's order."""
    return [tuple([things[at] for at in lot]) for lot in lots_of(len(things), size)]


def others_than(lot, many):
    """The ascending tuple of the things that a lot has not."""
    return tuple([thing for thing in range(many) if thing not in lot])


def all_lots(many):
    """All ascending lots, by the numbers of their things, those of one number in Python's order."""
    return [lot for size in range(many + 1) for lot in lots_of(many, size)]


def is_order(value, many):
    """Whether the value is a tuple that has each of so many things just once."""
    if not isinstance(value, tuple) or len(value) != many:
        return False
    return are_things(value, many) and len(set(value)) == many


def are_things(value, many):
    """Whether all members of a tuple are things below their number."""
    return all([is_between(thing, 0, many - 1) for thing in value])
