"""Unknowns with which some sums are 0 and others are above 0, or factors that bar this.

Each sum is a line of integers, one for each unknown. Factors bar that sums are so
if the lines, multiplied by them, add up to 0, while no factor of a sum that is to
be above 0 is below 0, and some such factor is above 0.
"""

from math import gcd

SLACK = -1
CONSTANT = -2
# Sums can be above 0 exactly if they can reach any numbers above 0, as all unknowns can
# be multiplied. Unlike numbers keep steps from leading nowhere.
LEAST = 1000
STEP = 7919
SPREAD = 997


class Tableau:
    """Variables, each told by a line of multiples of other variables, the free ones.

    The variables are, by their numbers: what each sum has beyond the number that it
    is to reach; then the unknowns; and the slack. All integers of the lines stand over
    one scale. The first free variable is always 1, the others are 0 at the time: so the
    first integers of the lines tell the values.
    """

    def __init__(self, sums, zeros):
        self._size = len(sums)
        self._width = len(sums[0])
        self._zeros = zeros
        self._scale = 1
        self._told = list(range(self._size))
        self._free = [CONSTANT] + [self._size + at for at in range(self._width)]
        self._lines = [[0 if at in zeros else -_number_to_reach(at), *line] for at, line in enumerate(sums)]

    def _is_great(self, variable):
        """Whether a variable is that of a sum that is to be above 0."""
        return 0 <= variable < self._size and variable not in self._zeros

    def _exchange(self, at, place):
        """Let a told variable and a free one change their places."""
        line = self._lines[at]
        sign = 1 if line[place] > 0 else -1
        scale = sign * line[place]
        lines = [self._put_into(other, line, place, scale) for other in self._lines]
        lines[at] = [-sign * value for value in line]
        lines[at][place] = sign * self._scale
        self._lines = lines
        self._scale = scale
        self._told[at], self._free[place] = self._free[place], self._told[at]

    def _put_into(self, line, other, place, scale):
        """A line where a free variable is told by another line, over a new scale."""
        factor = line[place] if other[place] > 0 else -line[place]
        if factor == 0 and scale == self._scale:
            return line
        # All these integers are determinants of the sums, so the divisions leave no rest.
        changed = [(value * scale - factor * more) // self._scale for value, more in zip(line, other)]
        changed[place] = factor
        return changed

    def tell_unknowns(self):
        """Let as many sums as can be tell the unknowns, first those that are to be 0."""
        for at in self._zeros + self._great_lines():
            line = self._lines[at]
            places = [place for place, one in enumerate(self._free) if one >= self._size and line[place] != 0]
            if places != []:
                self._exchange(at, places[0])

    def _great_lines(self):
        """The indices of the lines that tell sums that are to be above 0."""
        return [at for at, one in enumerate(self._told) if self._is_great(one)]

    def needs_slack(self):
        """Whether some sum is not as great as it is to be."""
        return any([self._lines[at][0] < 0 for at in self._great_lines()])

    def bring_in_slack(self):
        """Add as much slack to all sums that are told that none of them is too small."""
        great = self._great_lines()
        self._free.append(SLACK)
        self._lines = [[*line, self._scale if at in great else 0] for at, line in enumerate(self._lines)]
        _, least = min([(self._lines[at][0], at) for at in great])
        self._exchange(least, len(self._free) - 1)

    def lower_slack(self):
        """Lower the slack step by step, and tell whether it comes to 0."""
        is_stuck = False
        while SLACK in self._told:
            line = self._lines[self._told.index(SLACK)]
            places = [place for place, one in enumerate(self._free) if self._is_great(one) and line[place] < 0]
            if places == []:
                return False
            # After a step that led nowhere the least variables decide: so no row of steps comes back.
            _, place = min([(self._free[place] if is_stuck else line[place], place) for place in places])
            at = self._first_to_end(place)
            is_stuck = self._lines[at][0] == 0
            self._exchange(at, place)
        return True

    def _first_to_end(self, place):
        """The line that first comes to 0 if a free variable grows, that of the least variable of several."""
        falling = [at for at, line in enumerate(self._lines) if line[place] < 0]
        falling = [at for at in falling if self._told[at] == SLACK or self._is_great(self._told[at])]
        first = falling[0]
        for at in falling[1:]:
            mine = self._lines[at][0] * self._lines[first][place]
            other = self._lines[first][0] * self._lines[at][place]
            if mine > other or mine == other and self._told[at] < self._told[first]:
                first = at
        return first

    def unknowns(self):
        """The unknowns, multiplied by the scale."""
        known = {one: self._lines[at][0] for at, one in enumerate(self._told)}
        return [known.get(self._size + at, 0) for at in range(self._width)]

    def factors(self):
        """The factors of the sums with which the slack is told where it cannot be lowered."""
        line = self._lines[self._told.index(SLACK)]
        known = {one: line[place] for place, one in enumerate(self._free)}
        return [known.get(at, 0) for at in range(self._size)]


def _number_to_reach(at):
    return LEAST + at * STEP % SPREAD


def unknowns_or_factors(sums, zeros):
    """Integers for the unknowns and None, or None and factors that bar the sums.

    The sums with the told indices are to be 0, all others above 0.
    """
    tableau = Tableau(sums, zeros)
    tableau.tell_unknowns()
    if tableau.needs_slack():
        tableau.bring_in_slack()
        if not tableau.lower_slack():
            return (None, _without_divisor(tableau.factors()))
    return (tableau.unknowns(), None)


def _without_divisor(factors):
    common = 0
    for factor in factors:
        common = gcd(common, factor)
    return [factor // common for factor in factors]
