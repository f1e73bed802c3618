"""Bases and cuts of lots that are known to be lots of rounds."""

from sidesigns.rows.codes import code_of, has_within, mask_of, mask_of_things
from sidesigns.rows.rows import Lot
from sidesigns.things import behind, without


def bases_from(rounds):
    """The ascending tuple of the bases."""
    masks = list({mask_of(code_of(row)): True for row in rounds.rows})
    lots = [()]
    while True:
        longer = [lot + (thing,) for lot in lots for thing in range(behind(lot), rounds.many)]
        longer = [lot for lot in longer if not has_within(mask_of_things(lot), masks)]
        if longer == []:
            return tuple(lots)
        lots = longer


def cuts_from(rounds, bases):
    """The lot of the cuts of rounds with these bases."""
    known = {base: True for base in bases}
    # A cut is told by a base without one of its things: it is "0" at these.
    lots = {without(base, at): True for base in bases for at in range(len(base))}
    rows = [_cut_off(rounds, known, lot) for lot in lots]
    return Lot(rounds.many, tuple(rows)).with_turned()


def _cut_off(rounds, known, lot):
    """The cut that has none of the things of a base but one, which has "+"."""
    things = [thing for thing in range(rounds.many) if _with_thing(lot, thing) in known]
    first = things[0]
    signs = ["0"] * rounds.many
    signs[first] = "+"
    for thing in things[1:]:
        row = _round_within(rounds, _with_thing(lot, first) + (thing,))
        # The round and the cut have just these two things in common.
        signs[thing] = "-" if row[first] == row[thing] else "+"
    return "".join(signs)


def _with_thing(lot, thing):
    return tuple(sorted([*lot, thing]))


def _round_within(rounds, things):
    """The first round that has things of the lot alone; there is one."""
    for row in rounds.rows:
        if _has_no_other(row, things):
            return row
    return None


def _has_no_other(row, things):
    for thing, sign in enumerate(row):
        if sign != "0" and thing not in things:
            return False
    return True
