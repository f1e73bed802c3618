"""Rows as integers, for work that asks many rows at once.

The code of a row has the bit of each thing with "+", and the bit nine places
higher of each thing with "-". So what two rows have alike is one "and".
"""

SHIFT = 9
LOW = 511


def code_of(row):
    """The code of a row."""
    code = 0
    for thing, sign in enumerate(row):
        if sign == "+":
            code = code | 1 << thing
        elif sign == "-":
            code = code | 1 << thing + SHIFT
    return code


def row_of(code, many):
    """The row of so many signs that has the code."""
    return "".join([_sign_in(code, thing) for thing in range(many)])


def _sign_in(code, thing):
    if code >> thing & 1 == 1:
        return "+"
    if code >> thing + SHIFT & 1 == 1:
        return "-"
    return "0"


def turned_code(code):
    """The code of the turned row."""
    return code >> SHIFT | (code & LOW) << SHIFT


def mask_of(code):
    """The bits of the things that a row has, whatever their signs."""
    return (code >> SHIFT | code) & LOW


def mask_of_things(things):
    """The bits of some things."""
    mask = 0
    for thing in things:
        mask = mask | 1 << thing
    return mask


def both_signs(mask):
    """The code bits of both signs at some things."""
    return mask | mask << SHIFT
