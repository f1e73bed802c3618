"""Lots of rounds: judging them, their bases and their cuts."""

from sidesigns.errors import InvalidNumber, InvalidRow, Refused
from sidesigns.integers import is_between
from sidesigns.rows.codes import both_signs, code_of, has_within, mask_of, turned_code
from sidesigns.rows.rows import are_apart_at, check_lot, turned
from sidesigns.system.bases import bases_from, cuts_from
from sidesigns.system.tellings import told_signs


def rounds_paper(lot):
    """The paper on whether a lot is a lot of rounds."""
    check_lot(lot)
    if told_signs(lot) is not None:
        return ("rounds",)
    return _broken_paper(lot)


def _broken_paper(lot):
    """The first paper on a broken rule."""
    if _has_zero_row(lot):
        return ("zero",)
    for row in lot.rows:
        if turned(row) not in lot:
            return ("turned", row)
    within = first_within(lot)
    if within is not None:
        return ("within", *within)
    taken = _first_taken(lot)
    if taken is not None:
        return taken
    return ("rounds",)


def _has_zero_row(lot):
    return "0" * lot.many in lot


def first_within(lot):
    """The least row of a lot within another one, with the least such one, or None."""
    masks = [mask_of(code_of(row)) for row in lot.rows]
    for at, mask in enumerate(masks):
        for place, other in enumerate(masks):
            if mask & other == mask and are_unlike(lot.rows[at], lot.rows[place]):
                return (lot.rows[at], lot.rows[place])
    return None


def are_unlike(one, other):
    """Whether rows are neither equal nor each other's turned rows."""
    return one != other and one != turned(other)


def _first_taken(lot):
    """The least paper of the kind "taken" about a lot that keeps the other rules, or None."""
    codes = [code_of(row) for row in lot.rows]
    fitted = {}
    for at, one in enumerate(codes):
        # What fits one and other fits other and one, so the lesser one comes first.
        for other_at in range(at + 1, len(codes)):
            for thing in _things_to_take(one, codes[other_at], lot.many):
                room = _room(one, codes[other_at], thing)
                if room not in fitted:
                    fitted[room] = has_within(room, codes)
                if not fitted[room]:
                    return ("taken", lot.rows[at], lot.rows[other_at], thing)
    return None


def _things_to_take(one, other, many):
    """The things at which rows are apart that are not each other's turned rows."""
    if one == turned_code(other):
        return []
    mask = mask_of(one & turned_code(other))
    return [thing for thing in range(many) if mask >> thing & 1 == 1]


def _room(one, other, thing):
    """The signs that a row has that fits two rows, apart at the thing: these or fewer."""
    return (one | other) & ~both_signs(1 << thing)


def is_rounds_paper(lot, value):
    """Whether the value is a right paper about the lot."""
    check_lot(lot)
    if not isinstance(value, tuple) or value == ():
        return False
    kind, *told = value
    if kind == "rounds" and len(told) == 0:
        return rounds_paper(lot) == ("rounds",)
    if kind == "zero" and len(told) == 0:
        return _has_zero_row(lot)
    if kind == "turned" and len(told) == 1:
        return told[0] in lot and turned(told[0]) not in lot
    if kind == "within" and len(told) == 2:
        return _is_within(lot, told[0], told[1])
    if kind == "taken" and len(told) == 3:
        return _is_taken(lot, told[0], told[1], told[2])
    return False


def _are_in(lot, one, other):
    """Whether both rows are in the lot, and not each other's turned rows."""
    return one in lot and other in lot and one != turned(other)


def _is_within(lot, row, other):
    if not _are_in(lot, row, other) or row == other:
        return False
    masks = [mask_of(code_of(one)) for one in (row, other)]
    return masks[0] & masks[1] == masks[0]


def _is_taken(lot, one, other, thing):
    if not _are_in(lot, one, other) or not is_between(thing, 0, lot.many - 1):
        return False
    if not are_apart_at(one, other, thing):
        return False
    return _first_fitting(lot, one, other, thing, None) is None


def taken_out(lot, one, other, thing, *, kept=None):
    """The least row that fits two rows at a thing, perhaps with the sign of one kept."""
    check_lot(lot)
    for row in (one, other):
        if row not in lot:
            raise InvalidRow("not a row of the lot")
    if not is_between(thing, 0, lot.many - 1):
        raise InvalidNumber(thing)
    if kept is not None and not is_between(kept, 0, lot.many - 1):
        raise InvalidNumber(kept)
    if not are_apart_at(one, other, thing):
        raise Refused(("apart", thing))
    if kept is not None and (one[kept] == "0" or are_apart_at(one, other, kept)):
        raise Refused(("kept", kept))
    return _first_fitting(lot, one, other, thing, kept)


def _first_fitting(lot, one, other, thing, kept):
    """The least row of the lot that fits, and has the sign of one where it is kept; or None."""
    room = _room(code_of(one), code_of(other), thing)
    for row in lot.rows:
        if code_of(row) | room == room and (kept is None or row[kept] == one[kept]):
            return row
    return None


def check_rounds(lot):
    """Refuse what is no lot of rounds."""
    paper = rounds_paper(lot)
    if paper != ("rounds",):
        raise Refused(paper)


def bases_of(lot):
    """The ascending tuple of the bases of a lot of rounds."""
    check_rounds(lot)
    return bases_from(lot)


def rank_of(lot):
    """The rank of a lot of rounds."""
    return len(bases_of(lot)[0])


def cuts_of(lot):
    """The lot of the cuts of a lot of rounds."""
    return cuts_from(lot, bases_of(lot))
