"""Base signs: led from rounds, and to those of other systems."""

from sidesigns.rows.basesigns import signs_by_lot
from sidesigns.rows.codes import code_of, mask_of, mask_of_things
from sidesigns.rows.signs import times, turned_times, with_first_plus
from sidesigns.things import lots_of, without


def sign_of_order(known, order):
    """The sign of things in any order, from those of ascending lots."""
    size = len(order)
    pairs = 0
    for at in range(size):
        for behind in range(at + 1, size):
            if order[at] == order[behind]:
                return "0"
            if order[at] > order[behind]:
                pairs += 1
    return turned_times(known[tuple(sorted(list(order)))], pairs)


def signs_from_rounds(rounds, bases):
    """The base signs that rounds tell, or None if they do not tell the sign of each base."""
    rows = {mask_of(code_of(row)): row for row in rounds.rows}
    known = {bases[0]: "+"}
    waiting = [bases[0]]
    seen = {}
    while len(waiting) > 0:
        base = waiting.pop()
        for whole in _one_longer(base, rounds.many):
            if whole not in seen:
                seen[whole] = True
                told = _told_within(rows, whole, base, known[base])
                for lot, sign in told:
                    if lot not in known:
                        known[lot] = sign
                        waiting.append(lot)
    if len(known) != len(bases):
        return None
    signs = [known[lot] if lot in known else "0" for lot in lots_of(rounds.many, len(bases[0]))]
    return "".join(signs)


def _one_longer(lot, many):
    """The lots with one thing more."""
    return [tuple(sorted([*lot, thing])) for thing in range(many) if thing not in lot]


def _told_within(rows, whole, base, base_sign):
    """The bases within a lot with one thing more than a base, each with its sign."""
    row = _row_within(rows, mask_of_things(whole))
    if row is None:
        return []
    missing = _missing_place(whole, base)
    told = []
    for place, thing in enumerate(whole):
        if row[thing] != "0":
            sign = times(times(base_sign, row[whole[missing]]), row[thing])
            told.append((without(whole, place), turned_times(sign, place - missing)))
    return told


def _missing_place(whole, lot):
    """The place at which a lot has one thing more than another one."""
    return [place for place, thing in enumerate(whole) if thing not in lot][0]


def _row_within(rows, mask):
    for one in rows:
        if one & mask == one:
            return rows[one]
    return None


def opposite_signs(many, rank, signs):
    """The base signs of the opposite system."""
    lots = lots_of(many, rank)
    # The lots of all other things come in the opposite order.
    other = [turned_times(sign, sum(list(lots[at]))) for at, sign in enumerate(signs)]
    return with_first_plus("".join(other[::-1]))


def renamed_signs(many, rank, signs, order):
    """The base signs where the thing i is that with the index i of the order."""
    known = signs_by_lot(many, rank, signs)
    return _signs_of_lots(known, [tuple([order[thing] for thing in lot]) for lot in lots_of(many, rank)])


def turned_base_signs(many, rank, signs, things):
    """The base signs where some things are turned."""
    lots = lots_of(many, rank)
    counts = [len([thing for thing in lot if thing in things]) for lot in lots]
    return with_first_plus("".join([turned_times(sign, count) for sign, count in zip(signs, counts)]))


def kept_signs(many, rank, signs, kept, beside):
    """The base signs of some things with others put behind them."""
    known = signs_by_lot(many, rank, signs)
    size = rank - len(beside)
    places = lots_of(len(kept), size)
    return _signs_of_lots(known, [tuple([kept[at] for at in lot]) + beside for lot in places])


def _signs_of_lots(known, orders):
    return with_first_plus("".join([sign_of_order(known, order) for order in orders]))


def joined_signs(one_known, other_known, many, rank, first):
    """The base signs of two systems beside each other, the first one with so many things."""
    signs = []
    for lot in lots_of(many, rank):
        head = tuple([thing for thing in lot if thing < first])
        tail = tuple([thing - first for thing in lot if thing >= first])
        signs.append(times(one_known.get(head, "0"), other_known.get(tail, "0")))
    return "".join(signs)
