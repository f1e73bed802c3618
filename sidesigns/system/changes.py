"""Changes of names and signs, worked out over the base signs of systems."""

from sidesigns.parity import cleared, first_bit, solution
from sidesigns.rows.basesigns import signs_by_lot
from sidesigns.rows.codes import mask_of_things
from sidesigns.system.ranks import things_in
from sidesigns.system.signtables import sign_of_order
from sidesigns.things import lots_of


def orders_of(many):
    """All orders of so many things, ascending."""
    orders = [()]
    for _ in range(many):
        orders = [order + (thing,) for order in orders for thing in range(many) if thing not in order]
    return orders


def least_signs(many, rank, signs):
    """The first one, in Python's order, of the base signs to which changes lead."""
    known = signs_by_lot(many, rank, signs)
    lots = [(lot, mask_of_things(lot)) for lot in lots_of(many, rank)]
    best = "x"
    for order in orders_of(many):
        # Where signs as good as the best ones end early, they are better or they are them.
        found = _least_for_order(known, many, lots, order, best)
        best = min(best, found)
    return best


def _least_for_order(known, many, lots, order, best):
    """The first base signs to which changes with the order lead, or an end that is no better."""
    pivots = {}
    signs = ""
    is_less = False
    for lot, mask in lots:
        sign = sign_of_order(known, tuple([order[thing] for thing in lot]))
        if sign != "0":
            sign = _sign_put(pivots, equation(many, mask, sign, "+"), many)
        signs = signs + sign
        if not is_less and best != "x":
            if sign > best[len(signs) - 1]:
                return signs
            is_less = sign < best[len(signs) - 1]
    return signs


def equation(many, mask, sign, goal):
    """What the turned things have to keep so that a lot gets a sign.

    There is a bit for each thing of the lot, one for turning all signs, and
    one that is 1 if an odd number of these turns is needed.
    """
    return mask | 1 << many | (0 if sign == goal else 1 << many + 1)


def _sign_put(pivots, line, many):
    """The sign that a lot gets: "+" if the turns can still be so."""
    rest = cleared(pivots, line)
    if rest & (1 << many + 1) - 1 != 0:
        pivots[first_bit(rest)] = rest
        return "+"
    return "+" if rest == 0 else "-"


def turned_things(many, lines):
    """Things that can be turned so that some equations hold, or None."""
    pivots = {}
    for line in lines:
        rest = cleared(pivots, line)
        if rest == 1 << many + 1:
            return None
        if rest != 0:
            pivots[first_bit(rest)] = rest
    return things_in(solution(pivots, many + 1) & (1 << many) - 1)


def things_to_turn(one, other, order):
    """Things with which the order leads one system to the other, or None.

    Each system is told by its number of things and by its base signs by their lots.
    """
    many, known = one
    _, goal = other
    lines = []
    for lot, sign in goal.items():
        first = sign_of_order(known, tuple([order[thing] for thing in lot]))
        if (first == "0") != (sign == "0"):
            return None
        if sign != "0":
            lines.append(equation(many, mask_of_things(lot), first, sign))
    return turned_things(many, lines)
