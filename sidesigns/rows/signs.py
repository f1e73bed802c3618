"""Strings of signs of any length, rows and base signs alike."""


def turned_signs(signs):
    """The signs with "+" and "-" exchanged."""
    return signs.translate(str.maketrans("+-", "-+"))


def sign_of(value):
    """The sign of an integer."""
    if value > 0:
        return "+"
    if value < 0:
        return "-"
    return "0"


def signs_of(values):
    """The signs of integers."""
    return "".join([sign_of(value) for value in values])


def with_first_plus(signs):
    """The signs, all turned if the first one other than "0" is "-"."""
    if signs.strip("0").startswith("-"):
        return turned_signs(signs)
    return signs


def times(one, other):
    """The product of two signs."""
    if one == "0" or other == "0":
        return "0"
    return "+" if one == other else "-"


def turned_times(sign, count):
    """The sign, turned so many times."""
    if count % 2 == 0:
        return sign
    return turned_signs(sign)
