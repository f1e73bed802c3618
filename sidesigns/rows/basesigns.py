"""Rounds and cuts that the signs of bases tell."""

from sidesigns.rows.rows import Lot, lot_of
from sidesigns.rows.signs import turned_signs, turned_times
from sidesigns.things import lots_of, without


def rounds_of_signs(many, rank, signs):
    """The rounds that base signs tell, one sign for each lot of rank things."""
    known = signs_by_lot(many, rank, signs)
    rows = [_round_within(known, lot, many) for lot in lots_of(many, rank + 1)]
    return _rows_that_have_things(many, rows)


def cuts_of_signs(many, rank, signs):
    """The cuts that base signs tell."""
    if rank == 0:
        return Lot(many)
    known = signs_by_lot(many, rank, signs)
    rows = [_cut_off(known, lot, many) for lot in lots_of(many, rank - 1)]
    return _rows_that_have_things(many, rows)


def signs_by_lot(many, rank, signs):
    """The sign of each ascending lot of rank things."""
    return {lot: signs[at] for at, lot in enumerate(lots_of(many, rank))}


def _rows_that_have_things(many, rows):
    zero = "0" * many
    kept = [row for row in rows if row != zero]
    return lot_of(many, kept + [turned_signs(row) for row in kept])


def _round_within(known, lot, many):
    # Columns, one more than the rank, add up to 0 if each is multiplied by the
    # determinant of the others, with signs in turn.
    row = ["0"] * many
    for at, thing in enumerate(lot):
        row[thing] = turned_times(known[without(lot, at)], at)
    return "".join(row)


def _cut_off(known, lot, many):
    # The determinant with the columns of the lot ahead and any column as the
    # last one is a weighted row.
    row = ["0"] * many
    for thing in range(many):
        if thing not in lot:
            at = len([one for one in lot if one < thing])
            whole = lot[:at] + (thing,) + lot[at:]
            row[thing] = turned_times(known[whole], len(lot) - at)
    return "".join(row)
