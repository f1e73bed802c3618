"""Paintings of things, and the rounds and cuts that fit them."""

from sidesigns.errors import InvalidLot, InvalidOperation, InvalidPainting, TooMany
from sidesigns.integers import are_integers
from sidesigns.papers import is_told
from sidesigns.rows.codes import code_of, has_within, mask_of, turned_code
from sidesigns.rows.rows import check_lot, check_many, is_upright, turned
from sidesigns.rows.signs import signs_of
from sidesigns.system.rounds import are_unlike, first_within
from sidesigns.system.systems import System, check_system
from sidesigns.system.tellings import told_signs
from sidesigns.system.viewing import is_upright_code
from sidesigns.table.tables import check_table

MAX_PAIR_ROWS = 600
# The signs that a row can have at a thing, by the letter of the thing.
ROUND_SIGNS = {"r": "+", "s": "+0", "a": "-0", "o": "+-0", "c": "0"}
CUT_SIGNS = {"r": "+", "s": "+0", "a": "-0", "o": "0", "c": "+-0"}


def is_painting(value, many):
    """Whether the value is a painting of so many things."""
    if not isinstance(value, str) or len(value) != many:
        return False
    return value.count("r") == 1 and value.strip("rsaoc") == ""


def _check_painting(painting, many):
    if not is_painting(painting, many):
        raise InvalidPainting("not a painting of the things")


def does_fit_round(row, painting):
    """Whether a row fits a painting as a round."""
    for sign, letter in zip(row, painting):
        if sign not in ROUND_SIGNS[letter]:
            return False
    return True


def does_fit_cut(row, painting):
    """Whether a row fits a painting as a cut."""
    for sign, letter in zip(row, painting):
        if sign not in CUT_SIGNS[letter]:
            return False
    return True


def first_round(rounds, painting):
    """The least round that fits, or None."""
    for row in rounds.rows:
        if does_fit_round(row, painting):
            return row
    return None


def first_cut(cuts, painting):
    """The least cut that fits, or None."""
    for row in cuts.rows:
        if does_fit_cut(row, painting):
            return row
    return None


def painted(system, painting):
    """The least round that fits a painting, or the least cut."""
    check_system(system)
    _check_painting(painting, system.many)
    row = first_round(system.rounds, painting)
    if row is not None:
        return ("round", row)
    return ("cut", first_cut(system.cuts, painting))


def is_painted(system, painting, value):
    """Whether the value tells a round or a cut that fits a painting."""
    check_system(system)
    _check_painting(painting, system.many)
    if is_told(value, "round", 2):
        return value[1] in system.rounds and does_fit_round(value[1], painting)
    if is_told(value, "cut", 2):
        return value[1] in system.cuts and does_fit_cut(value[1], painting)
    return False


def paintings(many, *, letters="acos"):
    """Yield all paintings of so many things with some letters beside "r", ascending."""
    check_many(many)
    if not isinstance(letters, str) or letters not in _words("acos"):
        raise InvalidOperation("not an ascending string of painting letters")
    half = many // 2
    plain = _parts(many - half, letters, 0)
    red = _parts(many - half, letters, 1)
    for head in sorted(_parts(half, letters, 0) + _parts(half, letters, 1)):
        for tail in plain if "r" in head else red:
            yield head + tail


def _words(letters):
    """The ascending strings of some of the letters."""
    words = [""]
    for letter in letters:
        words = words + [word + letter for word in words]
    return words


def _parts(size, letters, reds):
    """The ascending strings of so many letters with "r" so many times."""
    words = [""]
    for _ in range(size):
        words = [word + letter for word in words for letter in letters + "r"]
        words = [word for word in words if word.count("r") <= reds]
    return sorted([word for word in words if word.count("r") == reds])


def _check_pair(rounds, cuts):
    check_lot(rounds)
    check_lot(cuts)
    if cuts.many != rounds.many:
        raise InvalidLot("not a lot of rows with equally many signs")
    if len(rounds) > MAX_PAIR_ROWS or len(cuts) > MAX_PAIR_ROWS:
        raise TooMany(MAX_PAIR_ROWS)


def pair_paper(rounds, cuts):
    """The first paper on whether two lots are all rounds and all cuts of a system."""
    _check_pair(rounds, cuts)
    if _are_pair(rounds, cuts):
        return ("pair",)
    named = (("rounds", rounds), ("cuts", cuts))
    for name, lot in named:
        if "0" * lot.many in lot:
            return ("zero", name)
    for name, lot in named:
        for row in lot.rows:
            if turned(row) not in lot:
                return ("turned", name, row)
    for name, lot in named:
        within = first_within(lot)
        if within is not None:
            return ("within", name, *within)
    return _unlike_paper(rounds, cuts)


def _are_pair(rounds, cuts):
    """Whether both lots are those of one system."""
    return told_signs(rounds) is not None and System(rounds).cuts == cuts


def _unlike_paper(rounds, cuts):
    """The first paper of the last two kinds; there is one, where the other kinds have none."""
    codes = [code_of(row) for row in cuts.rows]
    turned_codes = [turned_code(code) for code in codes]
    for row in rounds.rows:
        one = code_of(row)
        for at, other in enumerate(codes):
            if not is_upright_code(one, other, turned_codes[at]):
                return ("upright", row, cuts.rows[at])
    round_masks = _masks(rounds)
    cut_masks = _masks(cuts)
    for painting in paintings(rounds.many, letters="co"):
        red = painting.index("r")
        rounds_within = _mask_of_letters(painting, "ro")
        cuts_within = _mask_of_letters(painting, "rc")
        if not has_within(rounds_within, round_masks[red]) and not has_within(cuts_within, cut_masks[red]):
            return ("painting", painting)
    return ("pair",)


def _masks(lot):
    """For each thing the masks of the rows that have it."""
    masks = {mask_of(code_of(row)): True for row in lot.rows}
    return [[mask for mask in masks if mask >> thing & 1 == 1] for thing in range(lot.many)]


def _mask_of_letters(painting, letters):
    """The mask of the things with one of the letters."""
    mask = 0
    for thing, letter in enumerate(painting):
        if letter in letters:
            mask = mask | 1 << thing
    return mask


def is_pair_paper(rounds, cuts, value):
    """Whether the value is a right paper on two lots."""
    _check_pair(rounds, cuts)
    if is_told(value, "pair", 1):
        return _are_pair(rounds, cuts)
    if is_told(value, "upright", 3):
        _, row, other = value
        return row in rounds and other in cuts and not is_upright(row, other)
    if is_told(value, "painting", 2):
        return _is_fitted_by_none(rounds, cuts, value[1])
    if not isinstance(value, tuple) or len(value) < 2:
        return False
    if value[1] == "rounds":
        return _is_lot_paper(rounds, value)
    if value[1] == "cuts":
        return _is_lot_paper(cuts, value)
    return False


def _is_fitted_by_none(rounds, cuts, painting):
    if not is_painting(painting, rounds.many):
        return False
    return first_round(rounds, painting) is None and first_cut(cuts, painting) is None


def _is_lot_paper(lot, value):
    """Whether a paper that names one of both lots tells what is so."""
    if is_told(value, "zero", 2):
        return "0" * lot.many in lot
    if is_told(value, "turned", 3):
        return value[2] in lot and turned(value[2]) not in lot
    if not is_told(value, "within", 4):
        return False
    _, _, row, other = value
    if row not in lot or other not in lot or not are_unlike(row, other):
        return False
    mask = mask_of(code_of(row))
    return mask != 0 and mask & mask_of(code_of(other)) == mask


def in_table(table, painting):
    """The whole sum of the least round of a table that fits, or the weights of the least cut."""
    check_table(table)
    _check_painting(painting, table.many)
    row = first_round(table.rounds, painting)
    if row is not None:
        return ("sum", table.round_sum(row))
    return ("weights", table.cut_weights(first_cut(table.cuts, painting)))


def is_in_table(table, painting, value):
    """Whether the value tells a sum or weights of a table for a painting."""
    check_table(table)
    _check_painting(painting, table.many)
    if is_told(value, "sum", 2):
        return _is_sum(table, painting, value[1])
    if is_told(value, "weights", 2):
        return _are_weights(table, painting, value[1])
    return False


def _is_sum(table, painting, numbers):
    if not are_integers(numbers, table.many):
        return False
    if any([_product_sum(row, numbers) != 0 for row in table.rows]):
        return False
    return does_fit_round(signs_of(numbers), painting)


def _are_weights(table, painting, numbers):
    if not are_integers(numbers, len(table.rows)):
        return False
    sums = [_product_sum([row[thing] for row in table.rows], numbers) for thing in range(table.many)]
    return does_fit_cut(signs_of(sums), painting)


def _product_sum(values, factors):
    return sum([value * factor for value, factor in zip(values, factors)])
