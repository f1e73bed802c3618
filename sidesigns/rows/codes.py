"""Rows as integers, for work that asks many rows at once.

The code of a row has the bit of each thing with "+", and the bit nine places
higher of each thing with "-". So what two rows have alike is one "and".
"""

SHIFT = 9
LOW = 511


def code_of(row):
    """The code of a row."""
    code = 0
    for thing, sign in enumerate(row):
        if sign == "+":
            code = code | 1 << thing
        elif sign == "-":
            code = code | 1 << thing + SHIFT
    return code


def rows_by_code(first, behind):
    """The signs at the things from the first one to that ahead of the last, by their codes.

    The rows are ascending.
    """
    rows = {0: ""}
    for thing in range(first, behind):
        signs = ((1 << thing, "+"), (1 << thing + SHIFT, "-"), (0, "0"))
        rows = {code | bit: row + sign for code, row in rows.items() for bit, sign in signs}
    return rows


def rows_of(codes, many):
    """The rows of so many signs that have the codes."""
    # Two short tables are made sooner than each row sign by sign.
    half = many // 2
    heads = rows_by_code(0, half)
    tails = rows_by_code(half, many)
    low = both_signs((1 << half) - 1)
    return [heads[code & low] + tails[code & ~low] for code in codes]


def turned_code(code):
    """The code of the turned row."""
    return code >> SHIFT | (code & LOW) << SHIFT


def mask_of(code):
    """The bits of the things that a row has, whatever their signs."""
    return (code >> SHIFT | code) & LOW


def has_within(whole, parts):
    """Whether a mask, or a code, has all bits of some of others."""
    for part in parts:
        if part & whole == part:
            return True
    return False


def least_masks(masks):
    """Those of some masks other than 0 that have no other one of them within."""
    least = []
    for mask in sorted([one for one in masks if one != 0], key=size_of):
        if not has_within(mask, least):
            least.append(mask)
    return least


def joined_masks(masks):
    """The masks that come of joining those of some that have common bits."""
    joined = []
    for mask in masks:
        whole = mask
        for other in joined:
            if other & mask != 0:
                whole = whole | other
        joined = [other for other in joined if other & mask == 0] + [whole]
    return joined


def mask_of_things(things):
    """The bits of some things."""
    mask = 0
    for thing in things:
        mask = mask | 1 << thing
    return mask


def size_of(mask):
    """How many things a mask has."""
    return f"{mask:b}".count("1")


def both_signs(mask):
    """The code bits of both signs at some things."""
    return mask | mask << SHIFT
