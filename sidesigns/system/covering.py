"""Rules of views and regions over the codes of rows."""

from sidesigns.errors import TooMany
from sidesigns.rows.codes import LOW, both_signs, code_of, mask_of, rows_of, turned_code


def first_unlaid(lot):
    """The least two rows of a lot of which the one laid over the other is not there, or None."""
    codes = [code_of(row) for row in lot.rows]
    known = {code: True for code in codes}
    showing = {}
    for at, code in enumerate(codes):
        free = both_signs(LOW ^ mask_of(code))
        if free not in showing:
            showing[free] = list({under & free: True for under in codes})
        if not all([code | part in known for part in showing[free]]):
            places = [place for place, under in enumerate(codes) if code | under & free not in known]
            return (lot.rows[at], lot.rows[places[0]])
    return None


def first_between(lot):
    """The least two rows of a lot and a thing that break the rule "between", or None."""
    codes = [code_of(row) for row in lot.rows]
    turned = [turned_code(code) for code in codes]
    seen = {}
    for at, one in enumerate(codes):
        # What holds for one and other holds for other and one, so the lesser one comes first.
        for place in range(at + 1, len(codes)):
            parted = one & turned[place]
            if parted != 0:
                things = mask_of(parted)
                if things not in seen:
                    seen[things] = _zeros_by_rest(codes, things)
                rest = (one | codes[place]) & ~both_signs(things)
                wrong = things & ~seen[things].get(rest, 0)
                if wrong != 0:
                    return (lot.rows[at], lot.rows[place], (wrong & -wrong).bit_length() - 1)
    return None


def _zeros_by_rest(codes, things):
    """At which of some things rows are "0", by their signs at all others."""
    zeros = {}
    rest = ~both_signs(things)
    for code in codes:
        zeros[code & rest] = zeros.get(code & rest, 0) | things & ~mask_of(code)
    return zeros


def covered_rows(lot, most):
    """The rows that a lot covers; there are not to be more than a limit."""
    if len(lot) == 0:
        return []
    codes = [code_of(row) for row in lot.rows]
    found = []
    for mask in range(1 << lot.many):
        found = found + _covered_with(codes, mask)
        if len(found) > most:
            raise TooMany(most)
    return rows_of(found, lot.many)


def _covered_with(codes, mask):
    """The codes of the covered rows that have just the things of a mask."""
    # A row is covered if each rest of a row of the lot stands behind its signs.
    inside = both_signs(mask)
    rests = len({code & ~inside for code in codes})
    counts = {}
    for code in codes:
        counts[code & inside] = counts.get(code & inside, 0) + 1
    return [part for part, count in counts.items() if count == rests and mask_of(part) == mask]
