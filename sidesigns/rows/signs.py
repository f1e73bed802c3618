"""Strings of signs of any length, rows and base signs alike."""


def turned_signs(signs):
    """The signs with "+" and "-" exchanged."""
    return signs.translate(str.maketrans("+-", "-+"))


def sign_of(value):
    """The sign of an integer."""
    if value > 0:
        return "+"
    if value < 0:
        return "-"
    return "0"


def signs_of(values):
    """The signs of integers."""
    return "".join([sign_of(value) for value in values])
