"""What counts as an integer among the arguments."""


def is_integer(value):
    """Whether the value is an integer; True and False are none."""
    return isinstance(value, int) and not isinstance(value, bool)


def is_between(value, least, most):
    """Whether the value is an integer from the least one to the greatest one."""
    return is_integer(value) and least <= value <= most


def is_short(value):
    """Whether the value is an integer of at most sixty digits."""
    return is_integer(value) and abs(value) < 10 ** 60


def are_integers(value, size):
    """Whether the value is a tuple of so many integers of any length."""
    return isinstance(value, tuple) and len(value) == size and all([is_integer(one) for one in value])
