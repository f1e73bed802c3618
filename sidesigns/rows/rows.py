"""Sign rows and lots of rows."""

from sidesigns.errors import InvalidLot, InvalidNumber, InvalidOperation, InvalidRow, TooMany
from sidesigns.integers import is_between
from sidesigns.rows.codes import (LOW, both_signs, code_of, least_masks, mask_of, rows_by_code, rows_of, size_of,
                                  turned_code)
from sidesigns.rows.signs import turned_signs
from sidesigns.things import is_ascending

MAX_THINGS = 9
MAX_LAYINGS = 7000
MAX_UPRIGHT = 7


def is_row(value, many):
    """Whether the value is a sign row with so many signs."""
    return isinstance(value, str) and len(value) == many and value.strip("+-0") == ""


def check_many(many):
    """Refuse what is no number of things."""
    if not is_between(many, 0, MAX_THINGS):
        raise InvalidNumber(many)


def check_row(row, many):
    """Refuse what is no sign row with so many signs."""
    if not is_row(row, many):
        raise InvalidRow("not a sign row with a sign for each thing")


def check_things(things, many):
    """Refuse what is no ascending tuple of things below their number."""
    if not is_ascending(things, many):
        raise InvalidOperation("not an ascending tuple of things")


def check_lot(lot):
    """Refuse what is no lot of rows."""
    if not isinstance(lot, Lot):
        raise InvalidLot("not a lot of rows")


def check_any_row(row):
    """Refuse what is no sign row of any number of things."""
    if not isinstance(row, str) or len(row) > MAX_THINGS:
        raise InvalidRow("not a sign row")
    check_row(row, len(row))


def _check_rows(one, other):
    check_any_row(one)
    check_row(other, len(one))


def turned(row, things=None):
    """The row, turned at the told things, or at all."""
    check_any_row(row)
    whole = turned_signs(row)
    if things is None:
        return whole
    check_things(things, len(row))
    return "".join([whole[at] if at in things else sign for at, sign in enumerate(row)])


def laid_over(one, other):
    """The first row laid over the second one."""
    _check_rows(one, other)
    return "".join([other[at] if sign == "0" else sign for at, sign in enumerate(one)])


def are_apart_at(one, other, thing):
    """Whether two rows are apart at a thing."""
    return one[thing] != "0" and other[thing] != "0" and one[thing] != other[thing]


def apart(one, other):
    """The things at which the rows are apart."""
    _check_rows(one, other)
    return tuple([thing for thing in range(len(one)) if are_apart_at(one, other, thing)])


def is_upright(one, other):
    """Whether the rows are upright to each other."""
    _check_rows(one, other)
    return _is_code_upright(code_of(one), code_of(other))


def _is_code_upright(one, other):
    # Upright rows agree somewhere exactly if they are apart somewhere.
    return (one & other == 0) == (one & turned_code(other) == 0)


def things_of(row):
    """The things that the row has."""
    check_any_row(row)
    return tuple([thing for thing, sign in enumerate(row) if sign != "0"])


def zeros_of(row):
    """The things that the row has not."""
    check_any_row(row)
    return tuple([thing for thing, sign in enumerate(row) if sign == "0"])


def signs_at(row, things):
    """The row of the signs at the told things, in order."""
    check_any_row(row)
    check_things(things, len(row))
    return "".join([row[thing] for thing in things])


def spread(row, things, many):
    """The row of so many signs with those of a row at the told things, and else "0"."""
    check_any_row(row)
    check_things(things, MAX_THINGS)
    if len(things) != len(row):
        raise InvalidOperation("not as many things as signs")
    if not is_between(many, 0, MAX_THINGS) or not is_ascending(things, many):
        raise InvalidNumber(many)
    signs = ["0"] * many
    for at, thing in enumerate(things):
        signs[thing] = row[at]
    return "".join(signs)


def all_rows(many):
    """Yield all rows of so many signs, ascending."""
    check_many(many)
    rows = [""]
    for _ in range(many):
        rows = [row + sign for row in rows for sign in "+-0"]
    yield from rows


def _laid_codes(codes):
    """The codes of all layings of rows, with that of the zero row."""
    # What is laid over the layings of one lot of things has more things, and a
    # lot with more things has a greater mask: so each lot is gone through once.
    layers = {0: {0: True}}
    many = 1
    for mask in range(LOW + 1):
        if mask in layers:
            layer = list(layers[mask])
            for more, parts in _parts_beside(codes, mask).items():
                goal = layers.setdefault(mask | more, {})
                many = many + _fill(goal, mask | more, layer, parts)
                if many > MAX_LAYINGS:
                    raise TooMany(MAX_LAYINGS)
    return [code for layer in layers.values() for code in layer]


def _parts_beside(codes, mask):
    """What rows show beside some things, by the things that it has."""
    free = both_signs(LOW ^ mask)
    parts = {code & free: True for code in codes}
    groups = {}
    for part in parts:
        groups.setdefault(mask_of(part), []).append(part)
    return groups


def _fill(goal, mask, layer, parts):
    """Lay rows over the parts of others, and tell how many layings are new."""
    before = len(goal)
    # Nothing is new where all signs at all the things are there already.
    if before < 1 << size_of(mask):
        goal.update({code | part: True for part in parts for code in layer})
    return len(goal) - before


def _is_upright_to_all(code, others):
    for other in others:
        if not _is_code_upright(code, other):
            return False
    return True


class Lot:
    """A lot of rows with equally many signs."""

    def __init__(self, many, rows=()):
        check_many(many)
        if not isinstance(rows, tuple) or not all([is_row(row, many) for row in rows]):
            raise InvalidLot("not a tuple of rows with so many signs")
        self._many = many
        self._known = {row: True for row in rows}
        self._rows = tuple(sorted(list(self._known)))

    @property
    def many(self):
        """The number of signs of each row."""
        return self._many

    @property
    def rows(self):
        """The ascending tuple of the rows."""
        return self._rows

    @property
    def is_even(self):
        """Whether with each row the turned row is there."""
        return all([turned(row) in self._known for row in self._rows])

    def __len__(self):
        return len(self._rows)

    def __iter__(self):
        return iter(self._rows)

    def __contains__(self, x):
        return isinstance(x, str) and x in self._known

    def __eq__(self, other):
        return isinstance(other, Lot) and self._many == other._many and self._rows == other._rows

    def __str__(self):
        return f"{len(self._rows)} rows of {self._many} signs"

    def __or__(self, other):
        if not isinstance(other, Lot):
            return NotImplemented
        _check_alike(self, other)
        return Lot(self._many, self._rows + other._rows)

    def __and__(self, other):
        if not isinstance(other, Lot):
            return NotImplemented
        _check_alike(self, other)
        return Lot(self._many, tuple([row for row in self._rows if row in other._known]))

    def __sub__(self, other):
        if not isinstance(other, Lot):
            return NotImplemented
        _check_alike(self, other)
        return Lot(self._many, tuple([row for row in self._rows if row not in other._known]))

    def least(self):
        """The lot of the least rows: but for the zero row none lies within another."""
        masks = {row: mask_of(code_of(row)) for row in self._rows}
        least = least_masks(list({mask: True for mask in masks.values()}))
        return Lot(self._many, tuple([row for row in self._rows if masks[row] in least]))

    def with_turned(self):
        """The lot with all turned rows."""
        return Lot(self._many, self._rows + tuple([turned(row) for row in self._rows]))

    def turned_at(self, things):
        """The lot of all rows turned at the told things."""
        check_things(things, self._many)
        return Lot(self._many, tuple([turned(row, things) for row in self._rows]))

    def layings(self):
        """The lot of the zero row and of all layings of rows of the lot."""
        codes = _laid_codes([code_of(row) for row in self._rows])
        return lot_of(self._many, rows_of(codes, self._many))

    def uprights(self):
        """The lot of all rows that are upright to each row of the lot."""
        if self._many > MAX_UPRIGHT:
            raise TooMany(MAX_UPRIGHT)
        codes = [code_of(row) for row in self._rows]
        rows = rows_by_code(0, self._many)
        return lot_of(self._many, [row for code, row in rows.items() if _is_upright_to_all(code, codes)])


def lot_of(many, rows):
    """The lot of a list of rows that are known to have so many signs."""
    made = Lot(many)
    made._known = {row: True for row in rows}
    made._rows = tuple(sorted(list(made._known)))
    return made


def _check_alike(one, other):
    if one.many != other.many:
        raise InvalidLot("not a lot of rows with equally many signs")
