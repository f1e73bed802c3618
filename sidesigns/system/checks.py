"""Checks of arguments that several modules share."""

from sidesigns.errors import InvalidNumber, InvalidOperation, InvalidOrder
from sidesigns.integers import is_between
from sidesigns.things import is_ascending, is_order


def check_thing(thing, many):
    """Refuse what is no thing below their number."""
    if not is_between(thing, 0, many - 1):
        raise InvalidNumber(thing)


def check_order(order, many):
    """Refuse what has not each of so many things just once."""
    if not is_order(order, many):
        raise InvalidOrder("not a tuple that has each thing just once")


def check_base(base, many, bases):
    """Refuse what is none of the bases."""
    if not is_ascending(base, many) or base not in bases:
        raise InvalidOperation("not a base of the system")
