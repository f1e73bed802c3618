"""Systems told by their regions."""

from sidesigns.rows.codes import SHIFT, both_signs, code_of, has_within, mask_of_things, rows_of, turned_code
from sidesigns.rows.rows import Lot, zeros_of
from sidesigns.system.systems import system_of
from sidesigns.system.tellings import told_signs
from sidesigns.things import behind, others_than


def system_with_regions(lot):
    """The system with these regions, or None; the lot has rows, all with "0" at the same things."""
    loops = zeros_of(lot.rows[0])
    rounds = _missing_codes(lot, others_than(loops, lot.many))
    if rounds is None:
        return None
    rounds = rounds + [1 << loop for loop in loops]
    rows = rows_of(rounds + [turned_code(code) for code in rounds], lot.many)
    told = told_signs(Lot(lot.many, tuple(rows)))
    if told is None:
        return None
    rank, signs = told
    system = system_of(lot.many, rank, signs)
    return system if system.regions() == lot else None


def _missing_codes(lot, things):
    """The least rows whose signs no row of an even lot has, or None if they are no rounds."""
    codes = [code_of(row) for row in lot.rows]
    free = [()]
    masks = []
    rounds = []
    while free != []:
        longer = [one + (thing,) for one in free for thing in things if thing >= behind(one)]
        longer = [one for one in longer if not has_within(mask_of_things(one), masks)]
        free = []
        for one in longer:
            missing = _missing_at(codes, one)
            if missing == []:
                free.append(one)
            elif len(missing) == 2:
                rounds.append(missing[0])
                masks.append(mask_of_things(one))
            else:
                return None
    return rounds


def _missing_at(codes, things):
    """The codes of the signs at some things that no row has."""
    inside = both_signs(mask_of_things(things))
    seen = {code & inside: True for code in codes}
    if len(seen) == 1 << len(things):
        return []
    parts = [0]
    for thing in things:
        parts = [part | bit for part in parts for bit in (1 << thing, 1 << thing + SHIFT)]
    return [part for part in parts if part not in seen]
