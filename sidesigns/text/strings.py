"""Strings of lots, tables, systems and webs."""

from math import comb

from sidesigns.errors import InvalidOperation, ParseError
from sidesigns.integers import is_between, is_short
from sidesigns.rows.rows import MAX_THINGS, Lot, is_row
from sidesigns.system.judging import signs_paper
from sidesigns.system.systems import System, system_of
from sidesigns.table.tables import MAX_ROWS, Table
from sidesigns.web.webs import MAX_PLACES, MAX_WAYS, Web, is_way

MAX_DIGITS = 60


def write_value(value):
    """The string of a value."""
    if isinstance(value, Lot):
        return "\n".join([f"lot {value.many}", *value.rows])
    if isinstance(value, Table):
        return "\n".join([f"table {value.many}"] + [_line_of(row) for row in value.rows])
    if isinstance(value, System):
        return f"system {value.many} {value.rank} {value.signs}"
    if isinstance(value, Web):
        return "\n".join([f"web {value.places}"] + [_line_of(way) for way in value.ways])
    raise InvalidOperation("not a value that has a string")


def _line_of(numbers):
    """The line of some integers."""
    if not all([is_short(number) for number in numbers]):
        raise InvalidOperation("not a table of integers of at most sixty digits")
    return " ".join([str(number) for number in numbers])


def read_value(string):
    """The value with a string."""
    if not isinstance(string, str):
        raise ParseError(None)
    head, *lines = string.split("\n")
    word, *words = head.split(" ")
    if word == "lot":
        return _read_lot(words, lines)
    if word == "table":
        return _read_table(words, lines)
    if word == "system":
        return _read_system(words, lines)
    if word == "web":
        return _read_web(words, lines)
    raise ParseError(0)


def _integer_of(word):
    """The integer that a word tells, or None if it tells none."""
    digits = word[1:] if word.startswith("-") else word
    if digits == "" or len(digits) > MAX_DIGITS or digits.strip("0123456789") != "":
        return None
    if digits.startswith("0") and word != "0":
        return None
    return int(word)


def _integers_of(line):
    """The integers that a line tells, with None for words that tell none."""
    if line == "":
        return ()
    return tuple([_integer_of(word) for word in line.split(" ")])


def _number_of(words, most):
    """The only number of the first line behind its word."""
    if len(words) != 1 or not is_between(_integer_of(words[0]), 0, most):
        raise ParseError(0)
    return int(words[0])


def _read_lot(words, lines):
    many = _number_of(words, MAX_THINGS)
    for at, line in enumerate(lines):
        if not is_row(line, many):
            raise ParseError(at + 1)
    return Lot(many, tuple(lines))


def _read_table(words, lines):
    many = _number_of(words, MAX_THINGS)
    rows = [_integers_of(line) for line in lines]
    for at, row in enumerate(rows):
        if at >= MAX_ROWS or len(row) != many or None in row:
            raise ParseError(at + 1)
    return Table(many, tuple(rows))


def _read_system(words, lines):
    if len(words) != 3:
        raise ParseError(0)
    many, rank = [_integer_of(word) for word in words[:2]]
    if not is_between(many, 0, MAX_THINGS) or not is_between(rank, 0, many) or not is_row(words[2], comb(many, rank)):
        raise ParseError(0)
    if signs_paper(many, rank, words[2]) != ("signs",):
        raise ParseError(0)
    if lines != []:
        raise ParseError(1)
    return system_of(many, rank, words[2])


def _read_web(words, lines):
    places = _number_of(words, MAX_PLACES)
    ways = [_integers_of(line) for line in lines]
    for at, way in enumerate(ways):
        if at >= MAX_WAYS or not is_way(way, places):
            raise ParseError(at + 1)
    return Web(places, tuple(ways))
