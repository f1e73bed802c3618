"""Other ways to tell a system: by views, by regions, and by base signs."""

from math import comb

from sidesigns.errors import InvalidNumber, Refused, TooMany
from sidesigns.integers import is_between
from sidesigns.papers import is_told
from sidesigns.rows.codes import mask_of_things
from sidesigns.rows.rows import are_apart_at, check_lot, check_many, check_row, laid_over, lot_of, turned, zeros_of
from sidesigns.system.covering import covered_rows, first_between, first_unlaid
from sidesigns.system.regionrounds import system_with_regions
from sidesigns.system.signrules import (are_products_kept, first_exchange, first_products, lots_with_signs,
                                        numbers_by_mask)
from sidesigns.system.systems import system_of
from sidesigns.system.tellings import told_signs
from sidesigns.things import is_ascending

MAX_JUDGED = 1500


def _check_judged(lot):
    check_lot(lot)
    if len(lot) > MAX_JUDGED:
        raise TooMany(MAX_JUDGED)


def _first_turned(lot):
    for row in lot.rows:
        if turned(row) not in lot:
            return ("turned", row)
    return None


def _is_turned(lot, value):
    return is_told(value, "turned", 2) and value[1] in lot and turned(value[1]) not in lot


def _is_between_paper(lot, value):
    """Whether a value tells two rows of the lot and a thing that break the rule "between"."""
    if not is_told(value, "between", 4):
        return False
    _, one, other, thing = value
    if one not in lot or other not in lot or not is_between(thing, 0, lot.many - 1):
        return False
    if not are_apart_at(one, other, thing):
        return False
    row = laid_over(one, other)
    rest = [at for at in range(lot.many) if not are_apart_at(one, other, at)]
    return not any([_has_signs(found, row, rest) and found[thing] == "0" for found in lot.rows])


def _has_signs(row, other, things):
    for thing in things:
        if row[thing] != other[thing]:
            return False
    return True


def _broken_between(lot):
    found = first_between(lot)
    return None if found is None else ("between", *found)


def views_paper(lot):
    """The paper on whether a lot is the lot of views of a system."""
    _check_judged(lot)
    paper, _ = _judged_views(lot)
    return paper


def _judged_views(lot):
    """The paper about views, and the system that they tell, or None."""
    if "0" * lot.many not in lot:
        return (("zero",), None)
    paper = _first_turned(lot)
    if paper is not None:
        return (paper, None)
    unlaid = first_unlaid(lot)
    if unlaid is not None:
        return (("laid", *unlaid), None)
    system = _system_with_views(lot)
    if system is not None:
        return (("views",), system)
    return (_broken_between(lot), None)


def _system_with_views(lot):
    """The system with these views, or None; the lot keeps the other three rules."""
    cuts = lot.least()
    told = told_signs(cuts)
    if told is None:
        return None
    rank, signs = told
    system = ~system_of(lot.many, rank, signs)
    return system if cuts.layings() == lot else None


def is_views_paper(lot, value):
    """Whether the value is a right paper about views."""
    _check_judged(lot)
    if is_told(value, "views", 1):
        return views_paper(lot) == ("views",)
    if is_told(value, "zero", 1):
        return "0" * lot.many not in lot
    if is_told(value, "laid", 3):
        return value[1] in lot and value[2] in lot and laid_over(value[1], value[2]) not in lot
    return _is_turned(lot, value) or _is_between_paper(lot, value)


def system_of_views(lot):
    """The system with these views."""
    _check_judged(lot)
    paper, system = _judged_views(lot)
    if system is None:
        raise Refused(paper)
    return system


def _checked_covered(lot):
    """The lot of the rows that a lot covers."""
    _check_judged(lot)
    return lot_of(lot.many, covered_rows(lot, MAX_JUDGED))


def regions_paper(lot):
    """The paper on whether a lot is the lot of regions of a system."""
    paper, _ = _judged_regions(lot, _checked_covered(lot))
    return paper


def _judged_regions(lot, covered):
    """The paper about regions, and the system that they tell, or None."""
    if len(lot) == 0:
        return (("empty",), None)
    zeros = zeros_of(lot.rows[0])
    unlike = [row for row in lot.rows if zeros_of(row) != zeros]
    if unlike != []:
        return (("zeros", lot.rows[0], unlike[0]), None)
    paper = _first_turned(lot)
    if paper is not None:
        return (paper, None)
    system = system_with_regions(lot)
    if system is not None:
        return (("regions",), system)
    return (_broken_between(covered), None)


def is_regions_paper(lot, value):
    """Whether the value is a right paper about regions."""
    covered = _checked_covered(lot)
    if is_told(value, "regions", 1):
        paper, _ = _judged_regions(lot, covered)
        return paper == ("regions",)
    if is_told(value, "empty", 1):
        return len(lot) == 0
    if is_told(value, "zeros", 3):
        return value[1] in lot and value[2] in lot and zeros_of(value[1]) != zeros_of(value[2])
    return _is_turned(lot, value) or _is_between_paper(covered, value)


def system_of_regions(lot):
    """The system with these regions."""
    paper, system = _judged_regions(lot, _checked_covered(lot))
    if system is None:
        raise Refused(paper)
    return system


def _check_signs(many, rank, text):
    check_many(many)
    if not is_between(rank, 0, many):
        raise InvalidNumber(rank)
    check_row(text, comb(many, rank))


def signs_paper(many, rank, text):
    """The paper on whether a string is that of the base signs of a system."""
    _check_signs(many, rank, text)
    if not _has_sign(text):
        return ("none",)
    if _begins_turned(text):
        return ("first",)
    for paper in (first_exchange(many, rank, text), first_products(many, rank, text)):
        if paper is not None:
            return paper
    return ("signs",)


def _has_sign(text):
    return text.strip("0") != ""


def _begins_turned(text):
    return text.strip("0").startswith("-")


def is_signs_paper(many, rank, text, value):
    """Whether the value is a right paper about base signs."""
    _check_signs(many, rank, text)
    if is_told(value, "signs", 1):
        return signs_paper(many, rank, text) == ("signs",)
    if is_told(value, "none", 1):
        return not _has_sign(text)
    if is_told(value, "first", 1):
        return _begins_turned(text)
    if is_told(value, "exchange", 4):
        return _is_exchange_broken(many, lots_with_signs(many, rank, text), value)
    if is_told(value, "products", 3):
        return _are_products_broken(many, rank, text, value)
    return False


def _is_exchange_broken(many, lots, value):
    """Whether no thing of the other lot can stand in the place of a thing of the base."""
    _, base, other, thing = value
    for lot in (base, other):
        if not is_ascending(lot, many) or lot not in lots:
            return False
    if not is_between(thing, 0, many - 1) or thing not in base or thing in other:
        return False
    rest = [one for one in base if one != thing]
    changed = [tuple(sorted([*rest, one])) for one in other if one not in base]
    return not any([lot in lots for lot in changed])


def _are_products_broken(many, rank, text, value):
    """Whether the three products of a lot and four other things are not as they have to be."""
    _, lot, four = value
    if not is_ascending(lot, many) or not is_ascending(four, many) or (len(lot), len(four)) != (rank - 2, 4):
        return False
    if any([thing in lot for thing in four]):
        return False
    return not are_products_kept(numbers_by_mask(many, rank, text), mask_of_things(lot), four)


def system_of_signs(many, rank, text):
    """The system with these base signs."""
    paper = signs_paper(many, rank, text)
    if paper != ("signs",):
        raise Refused(paper)
    return system_of(many, rank, text)
