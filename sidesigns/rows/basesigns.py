"""Rounds and cuts that the signs of bases tell."""

from sidesigns.rows.rows import Lot
from sidesigns.rows.signs import turned_signs
from sidesigns.things import lots_of, without


def rounds_of_signs(many, rank, signs):
    """The rounds that base signs tell, one sign for each lot of rank things."""
    known = _signs_by_lot(many, rank, signs)
    rows = [_round_within(known, lot, many) for lot in lots_of(many, rank + 1)]
    return _rows_that_have_things(many, rows)


def cuts_of_signs(many, rank, signs):
    """The cuts that base signs tell."""
    if rank == 0:
        return Lot(many)
    known = _signs_by_lot(many, rank, signs)
    rows = [_cut_off(known, lot, many) for lot in lots_of(many, rank - 1)]
    return _rows_that_have_things(many, rows)


def _signs_by_lot(many, rank, signs):
    return {lot: signs[at] for at, lot in enumerate(lots_of(many, rank))}


def _rows_that_have_things(many, rows):
    zero = "0" * many
    return Lot(many, tuple([row for row in rows if row != zero])).with_turned()


def _round_within(known, lot, many):
    # Columns, one more than the rank, add up to 0 if each is multiplied by the
    # determinant of the others, with signs in turn.
    row = ["0"] * many
    for at, thing in enumerate(lot):
        row[thing] = _turned_times(known[without(lot, at)], at)
    return "".join(row)


def _cut_off(known, lot, many):
    # The determinant with the columns of the lot ahead and any column as the
    # last one is a weighted row.
    row = ["0"] * many
    for thing in range(many):
        if thing not in lot:
            at = len([one for one in lot if one < thing])
            whole = lot[:at] + (thing,) + lot[at:]
            row[thing] = _turned_times(known[whole], len(lot) - at)
    return "".join(row)


def _turned_times(sign, times):
    if times % 2 == 0:
        return sign
    return turned_signs(sign)
