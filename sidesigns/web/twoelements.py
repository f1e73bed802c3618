"""Tables over two elements: their rounds and cuts, and what gives them signs."""

from sidesigns.errors import InvalidTable
from sidesigns.integers import are_integers, is_between
from sidesigns.papers import is_told
from sidesigns.rows.codes import joined_masks, least_masks, mask_of_things, size_of
from sidesigns.rows.rows import MAX_THINGS, check_many
from sidesigns.system.ranks import sorted_lots, things_in
from sidesigns.table.sums import minors
from sidesigns.things import is_ascending
from sidesigns.web.links import all_links, is_each_met_evenly, judged_links

MAX_ROWS = 9


def _check_rows(many, rows):
    check_many(many)
    if not isinstance(rows, tuple) or len(rows) > MAX_ROWS:
        raise InvalidTable("not a tuple of at most nine rows")
    if not all([_is_row_over_two(row, many) for row in rows]):
        raise InvalidTable("not a row of 0 and 1 for each thing")


def _is_row_over_two(value, many):
    return are_integers(value, many) and all([is_between(one, 0, 1) for one in value])


def _reduced_masks(many, rows):
    """The rows of the reduced table, as masks."""
    left = [mask_of_things([at for at, one in enumerate(row) if one == 1]) for row in rows]
    masks = []
    for thing in range(many):
        heads = [mask for mask in left if mask >> thing & 1 == 1]
        if heads != []:
            left = _added_where(left, heads[0], thing)
            masks = _added_where(masks, heads[0], thing) + [heads[0]]
    return masks


def _added_where(masks, head, thing):
    """The masks with one of them added, modulo 2, to those that have a thing."""
    return [mask ^ head if mask >> thing & 1 == 1 else mask for mask in masks]


def reduced(many, rows):
    """The reduced table with the same even lots."""
    _check_rows(many, rows)
    return tuple([tuple([mask >> thing & 1 for thing in range(many)]) for mask in _reduced_masks(many, rows)])


def _least_sums(masks):
    """The ascending lots of the least sums of masks modulo 2 that are not empty."""
    sums = [0]
    for mask in masks:
        sums = sums + [one ^ mask for one in sums]
    return tuple(sorted_lots(least_masks(sums)))


def _even_masks(many, masks):
    """For each thing without a row that begins there, the even lot of it and of such first things."""
    heads = [mask & -mask for mask in masks]
    lots = []
    for thing in range(many):
        if 1 << thing not in heads:
            lot = 1 << thing
            for head, mask in zip(heads, masks):
                lot = lot | (head if mask >> thing & 1 == 1 else 0)
            lots.append(lot)
    return lots


def rounds_over_two(many, rows):
    """The ascending tuple of the rounds, as tuples of things."""
    _check_rows(many, rows)
    return _least_sums(_even_masks(many, _reduced_masks(many, rows)))


def cuts_over_two(many, rows):
    """The ascending tuple of the cuts, as tuples of things."""
    _check_rows(many, rows)
    return _least_sums(_reduced_masks(many, rows))


def signed_paper(many, rows):
    """A signing of a table, or an odd lot that bars it."""
    _check_rows(many, rows)
    masks = _reduced_masks(many, rows)
    links = all_links(_least_sums(_even_masks(many, masks)), _least_sums(masks))
    minus, odd = judged_links(links)
    if minus is None:
        return ("odd", odd)
    # Of the first things each row has just one, so it is a cut, and its signs are those of the cut.
    return ("signs", tuple([_signed_row(minus, things_in(mask), many) for mask in masks]))


def _signed_row(minus, cut, many):
    """The row with the signs of a cut."""
    return tuple([_number_at(minus, cut, thing) for thing in range(many)])


def _number_at(minus, cut, thing):
    if thing not in cut:
        return 0
    return -1 if ("cut", cut, thing) in minus else 1


def is_signed_paper(many, rows, value):
    """Whether the value tells a signing of a table, or an odd lot."""
    table = reduced(many, rows)
    if is_told(value, "signs", 2):
        return _is_signing(many, table, value[1])
    if is_told(value, "odd", 2):
        return _is_odd_lot(value[1], rounds_over_two(many, rows), cuts_over_two(many, rows))
    return False


def _is_signing(many, table, value):
    """Whether the value gives signs to a reduced table so that all determinants are small."""
    if not isinstance(value, tuple) or len(value) != len(table):
        return False
    for row, signs in zip(table, value):
        if not are_integers(signs, many) or [abs(sign) for sign in signs] != list(row):
            return False
    return all([is_between(number, -1, 1) for number in minors(value, many).values()])


def _is_odd_lot(value, rounds, cuts):
    """Whether the value is an ascending tuple of links that bars all signs."""
    if not isinstance(value, tuple) or not all([_is_link(one, rounds, cuts) for one in value]):
        return False
    if len(value) % 2 == 0 or list(value) != sorted(list({one: True for one in value})):
        return False
    return is_each_met_evenly(value)


def _is_link(value, rounds, cuts):
    if not isinstance(value, tuple) or len(value) != 3 or not all([is_ascending(lot, MAX_THINGS) for lot in value]):
        return False
    lot, cut, pair = value
    if lot not in rounds or cut not in cuts or len(pair) != 2:
        return False
    return pair == tuple([thing for thing in lot if thing in cut])


def signing_count(many, rows):
    """The number of the signings of a table."""
    word, _ = signed_paper(many, rows)
    if word == "odd":
        return 0
    # One sign after the other can be chosen that joins a row or a thing to others, and these tell the rest.
    masks = _reduced_masks(many, rows)
    return 1 << len(masks) + sum([size_of(mask) - 1 for mask in joined_masks(masks)])
