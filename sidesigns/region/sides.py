"""Webs of neighbours, and the sides of their ties."""

from sidesigns.errors import Refused, TooMany
from sidesigns.rows.codes import mask_of_things
from sidesigns.rows.rows import MAX_THINGS
from sidesigns.things import is_ascending


def is_web(value, most):
    """Whether the value tells neighbours, of so many indices at most, that are joined both ways."""
    if not isinstance(value, tuple) or not 1 <= len(value) <= most:
        return False
    for near in value:
        if not is_ascending(near, len(value)) or len(near) > MAX_THINGS:
            return False
    return all([_is_joined_back(value, index) for index in range(len(value))])


def _is_joined_back(neighbours, index):
    for other in neighbours[index]:
        if other == index or index not in neighbours[other]:
            return False
    return True


def layers_from(neighbours, start):
    """The masks of the indices with the same way to one of them, by their ways."""
    seen = 1 << start
    level = [start]
    layers = []
    while level != []:
        layers.append(mask_of_things(level))
        reached = {other: True for index in level for other in neighbours[index]}
        level = [other for other in reached if seen >> other & 1 == 0]
        seen = seen | mask_of_things(level)
    return layers


def check_joined(neighbours):
    """Refuse a web in which no ties lead from the index 0 to some index."""
    if sum(layers_from(neighbours, 0)) != (1 << len(neighbours)) - 1:
        raise Refused(("apart",))


def all_sides(neighbours):
    """The unlike pairs of sides, in the order of the least ties that have them."""
    layers = {}
    sides = {}
    for one in range(len(neighbours)):
        for other in neighbours[one]:
            if one < other:
                for index in (one, other):
                    if index not in layers:
                        layers[index] = layers_from(neighbours, index)
                near = _nearer(layers[one], layers[other])
                far = _nearer(layers[other], layers[one])
                sides[(min(near, far), max(near, far))] = True
                if len(sides) > MAX_THINGS:
                    raise TooMany(MAX_THINGS)
    return list(sides)


def _nearer(layers, others):
    """The mask of the indices with a shorter way to the first of two tied indices."""
    mask = 0
    for at in range(min(len(layers), len(others) - 1)):
        mask = mask | layers[at] & others[at + 1]
    return mask


def rows_of_sides(sides, many):
    """The signs of so many indices, "+" on the side of the index 0, or None if one has no side."""
    columns = []
    for pair in sides:
        first = [side for side in pair if side & 1 == 1]
        if len(first) != 1 or pair[0] | pair[1] != (1 << many) - 1:
            return None
        columns.append(first[0])
    return ["".join(["+" if side >> index & 1 == 1 else "-" for side in columns]) for index in range(many)]
