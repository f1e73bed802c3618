"""Rows that are upright to rounds: views and regions, told thing by thing."""

from sidesigns.rows.codes import SHIFT, code_of, has_within, mask_of, rows_of, turned_code


def region_rows(many, rounds):
    """The rows that are upright to all rounds and "0" at loops alone."""
    groups = _by_last(many, [code_of(row) for row in rounds])
    codes = [0]
    for thing in range(many):
        # The parts of the regions at the first things are those of the system of
        # these things, so no other row has to be gone on with.
        if not _has_loop(groups[thing], thing):
            longer = [code | bit for code in codes for bit in (1 << thing, 1 << thing + SHIFT)]
            codes = [code for code in longer if not has_within(code, groups[thing])]
    return rows_of(codes, many)


def _by_last(many, codes):
    """Codes of rows, by the last things of these."""
    groups = [[] for _ in range(many)]
    for code in codes:
        groups[mask_of(code).bit_length() - 1].append(code)
    return groups


def _has_loop(codes, thing):
    return 1 << thing in codes


def is_upright_code(one, other, turned):
    """Whether rows are upright to each other, the second one told with its turned row."""
    return (one & other == 0) == (one & turned == 0)


def is_upright_to_all(row, others):
    """Whether a row is upright to each of some rows."""
    code = code_of(row)
    for other in others:
        one = code_of(other)
        if not is_upright_code(code, one, turned_code(one)):
            return False
    return True
