"""The base signs that a lot of rounds tells."""

from sidesigns.rows.basesigns import rounds_of_signs
from sidesigns.system.bases import bases_from
from sidesigns.system.signrules import keeps_rules
from sidesigns.system.signtables import signs_from_rounds

# As many rows as four or five of nine things have lots, each with two signs.
MOST_ROUNDS = 252


def told_signs(lot):
    """The rank and the base signs of the system with these rounds, or None if there is none."""
    if len(lot) > MOST_ROUNDS:
        return None
    bases = bases_from(lot)
    signs = signs_from_rounds(lot, bases)
    if signs is None:
        return None
    rank = len(bases[0])
    # Signs that keep the rules tell a system, and its rounds are those that they give.
    if rounds_of_signs(lot.many, rank, signs) != lot or not keeps_rules(lot.many, rank, signs):
        return None
    return (rank, signs)
