"""Small worlds of systems, and the plain words of the document about them."""

from itertools import combinations, permutations, product

from sidesigns.rows.rows import Lot
from sidesigns.system.judging import system_of_signs
from sidesigns.system.systems import System
from sidesigns.table.tables import Table
from support import apart_at, are_upright, curve, has, least_rows, opposite, over, rows_of

LINE = System.of_table(Table(4, ((1, 1, 1, 1), (0, 1, 2, 3))))
PLANE = System.of_table(Table(5, ((1, 1, 1, 1, 1), (0, 2, 2, 0, 1), (0, 0, 2, 2, 1))))
DRAWN = System.of_table(Table(3, ((1, 0, 1), (0, 1, 1))))
MIXED = System(Lot(4, ("+000", "-000", "0+-0", "0-+0")))


def lots(many, size):
    return list(combinations(range(many), size))


def all_things(many):
    """All ascending tuples of things, by their sizes."""
    return [one for size in range(many + 1) for one in lots(many, size)]


def turned(row, things):
    return "".join(opposite(sign) if at in things else sign for at, sign in enumerate(row))


def times(one, other):
    return "0" if "0" in (one, other) else "+" if one == other else "-"


def sign_in(signs, order):
    """The sign of an order [4.2], from a dict of the signs of ascending tuples."""
    if len(set(order)) < len(order):
        return "0"
    turns = sum(1 for one, other in combinations(order, 2) if one > other)
    sign = signs[tuple(sorted(order))]
    return opposite(sign) if turns % 2 else sign


def sign_papers(many, rank, text):
    """All right papers on broken rules of [5.3], in the order of the rules, those of one rule ascending."""
    signs = dict(zip(lots(many, rank), text))
    told = [one for one in signs if signs[one] != "0"]
    if not told:
        yield ("none",)
    elif signs[told[0]] == "-":
        yield ("first",)
    for base, other in product(told, repeat=2):
        for thing in base:
            if thing not in other:
                changed = [set(base) - {thing} | {one} for one in other if one not in base]
                if not any(signs[tuple(sorted(one))] != "0" for one in changed):
                    yield ("exchange", base, other, thing)
    for lot in lots(many, rank - 2) if rank >= 2 else ():
        rest = [thing for thing in range(many) if thing not in lot]
        for a, b, c, d in combinations(rest, 4):
            p = times(sign_in(signs, lot + (a, b)), sign_in(signs, lot + (c, d)))
            q = opposite(times(sign_in(signs, lot + (a, c)), sign_in(signs, lot + (b, d))))
            r = times(sign_in(signs, lot + (a, d)), sign_in(signs, lot + (b, c)))
            if {p, q, r} != {"0"} and not {"+", "-"} <= {p, q, r}:
                yield ("products", lot, (a, b, c, d))


def first_sign_paper(many, rank, text):
    return next(sign_papers(many, rank, text), ("signs",))


def strings(many, rank):
    return ["".join(signs) for signs in product("+-0", repeat=len(lots(many, rank)))]


def right_strings(many, rank):
    """All strings of base signs of systems of so many things and this rank."""
    return [text for text in strings(many, rank) if first_sign_paper(many, rank, text) == ("signs",)]


def all_systems(many):
    """All systems of so many things, up to four."""
    return [system_of_signs(many, rank, text) for rank in range(many + 1) for text in right_strings(many, rank)]


def of_columns(many, columns):
    """The systems of all tables whose columns are among some told ones, each once."""
    found = {}
    for chosen in product(columns, repeat=many):
        table = Table(many, tuple(zip(*chosen)))
        found.setdefault((table.rank, table.signs), table)
    return [System.of_table(found[key]) for key in sorted(found)]


# All systems of at most three things, and those of four.
TINY = [system for many in range(4) for system in all_systems(many)]
FOUR = all_systems(4)


def of_tables(tables):
    found = []
    for table in tables:
        system = System.of_table(table)
        if system not in found:
            found.append(system)
    return found


def some_tables(many, height, step):
    """Tables of small integers that a plain rule picks."""
    values = list(product((-1, 0, 1, 2), repeat=many))
    return [Table(many, tuple(values[(at * at * 7 + row * (3 * at + 11) + at) % len(values)] for row in range(height)))
            for at in range(0, 40 * step, step)]


FIVE = of_tables(some_tables(5, 2, 3) + some_tables(5, 3, 5) + some_tables(5, 4, 7) + some_tables(5, 1, 9))
# The systems of all tables of five things with columns of integers from -1 to 1 of one or two rows, but for turning.
COLUMNED = of_columns(5, ((0, 0), (1, 0), (0, 1), (1, 1), (1, -1))) + of_columns(5, ((-1,), (0,), (1,)))
SIX = of_tables(some_tables(6, 3, 5)[:12] + [curve(6, rank) for rank in range(7)])
CURVES = [System.of_table(curve(many, rank)) for many in range(8) for rank in range(many + 1)]


def plain_views(system):
    """All rows that are upright to all rounds [4.4]."""
    return [row for row in rows_of(system.many) if all(are_upright(row, other) for other in system.rounds)]


def plain_regions(system):
    loops = plain_loops(system)
    return [row for row in plain_views(system) if set(range(system.many)) - has(row) == loops]


def plain_loops(system):
    return {thing for row in system.rounds if len(has(row)) == 1 for thing in has(row)}


def plain_bases(rounds, many):
    free = [things for things in all_things(many) if not any(has(row) <= set(things) for row in rounds)]
    return tuple(sorted(one for one in free if not any(set(one) < set(other) for other in free)))


def plain_cuts(rounds, many):
    return least_rows([row for row in rows_of(many) if all(are_upright(row, other) for other in rounds)])


def plain_rank(system, things):
    return max(len(set(base) & set(things)) for base in system.bases)


def plain_flat(system, things):
    rank = plain_rank(system, things)
    return tuple(thing for thing in range(system.many) if plain_rank(system, set(things) | {thing}) == rank)


def plain_classes(system):
    """The classes of alike things [4.3]."""
    pairs = [has(row) for row in system.rounds if len(has(row)) == 2]
    classes = []
    for thing in sorted(set(range(system.many)) - plain_loops(system)):
        near = {thing}.union(*[pair for pair in pairs if thing in pair])
        if tuple(sorted(near)) not in classes:
            classes.append(tuple(sorted(near)))
    return tuple(classes)


def without_things(row, things):
    return "".join(sign for at, sign in enumerate(row) if at not in things)


def plain_left_out(rounds, things):
    """The rounds without some things [4.6]."""
    return sorted(without_things(row, things) for row in rounds if not has(row) & set(things))


def plain_shrunk(rounds, things):
    """The least rows of all rounds without the signs at some things [4.6]."""
    return sorted(set(least_rows([without_things(row, things) for row in rounds])))


def all_changes(many):
    return [(order, things) for order in permutations(range(many)) for things in sorted(all_things(many))]


LINES = ((0, 1, 2), (3, 4, 5), (0, 4, 8), (0, 5, 7), (1, 3, 8), (1, 5, 6), (2, 3, 7), (2, 4, 6))


def bent():
    """A system of nine points that no table draws: eight lines, of which the ninth one is bent."""
    # The points on the lines 0 1 2 and 3 4 5, and the crossings of the six others.
    points = {0: (0, 0, 1), 1: (2, 0, 1), 2: (5, 0, 1), 3: (0, 4, 1), 4: (3, 4, 1), 5: (4, 4, 1)}
    for name, one, other in ((6, (1, 5), (2, 4)), (7, (0, 5), (2, 3)), (8, (0, 4), (1, 3))):
        points[name] = cross(cross(points[one[0]], points[one[1]]), cross(points[other[0]], points[other[1]]))
        if points[name][2] < 0:
            points[name] = tuple(-value for value in points[name])
    signs = dict(zip(lots(9, 3), Table(9, tuple(zip(*[points[name] for name in range(9)]))).signs))
    assert signs[(6, 7, 8)] == "0" and all(signs[one] == "0" for one in LINES)
    signs[(6, 7, 8)] = "+"
    return system_of_signs(9, 3, "".join(signs.values()))


def cross(one, other):
    return (one[1] * other[2] - one[2] * other[1], one[2] * other[0] - one[0] * other[2],
            one[0] * other[1] - one[1] * other[0])


COLUMNS = ((1, 1, 1, 1, 1, 1, 1, 1), (1, 2, 0, 0, 0, 0, 1, 5), (0, 0, 1, 3, 0, 0, 2, 10), (0, 0, 0, 0, 1, 4, 3, 15))


def eight():
    """The system of eight things of the rank 4 that the document shows to be drawn by no table."""
    return system_of_signs(8, 4, Table(8, COLUMNS).signs[:-1] + "+")


def is_laid_on(row, other):
    """Whether a row can be laid over another one without changing it."""
    return over(row, other) == other


def is_nowhere_apart(one, other):
    return not apart_at(one, other)
