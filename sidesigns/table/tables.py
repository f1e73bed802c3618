"""Tables of integers, with the rounds and cuts that they tell."""

from sidesigns.errors import InvalidNumber, InvalidOperation, InvalidTable, Refused
from sidesigns.integers import is_between, is_short
from sidesigns.rows.basesigns import cuts_of_signs, rounds_of_signs
from sidesigns.rows.rows import check_many, check_row, things_of, zeros_of
from sidesigns.rows.signs import signs_of, with_first_plus
from sidesigns.table.sums import dependences, minors

MAX_ROWS = 9


def is_tuple_of_short(value, size):
    """Whether the value is a tuple of so many integers of at most sixty digits."""
    return isinstance(value, tuple) and len(value) == size and all([is_short(one) for one in value])


def check_table(table):
    """Refuse what is no table."""
    if not isinstance(table, Table):
        raise InvalidTable("not a table")


def _check_rows(rows, many):
    if not isinstance(rows, tuple) or len(rows) > MAX_ROWS:
        raise InvalidTable("not a tuple of at most nine rows")
    for row in rows:
        if not is_tuple_of_short(row, many):
            raise InvalidTable("not a row with an integer for each thing")


def determinant(rows):
    """The determinant of as many rows as columns."""
    _check_rows(rows, len(rows) if isinstance(rows, tuple) else 0)
    return minors(rows, len(rows))[tuple(range(len(rows)))]


def _base_signs(rows, many):
    """The base signs of rows of which none depends."""
    return with_first_plus(signs_of(list(minors(rows, many).values())))


class Table:
    """A table of integers with a column for each thing."""

    def __init__(self, many, rows):
        check_many(many)
        _check_rows(rows, many)
        self._tell(many, rows)

    def _tell(self, many, rows):
        self._many = many
        self._rows = rows
        self._firsts = tuple([at for at, sums in enumerate(dependences(rows)) if sums is None])
        self._rank = len(self._firsts)
        self._signs = _base_signs(self._first_rows(), many)
        self._rounds = rounds_of_signs(many, self._rank, self._signs)
        self._cuts = cuts_of_signs(many, self._rank, self._signs)

    def _first_rows(self):
        return [self._rows[at] for at in self._firsts]

    @property
    def many(self):
        """The number of things."""
        return self._many

    @property
    def rows(self):
        """The tuple of the rows."""
        return self._rows

    @property
    def rank(self):
        """The number of rows that do not depend."""
        return self._rank

    @property
    def signs(self):
        """The base signs."""
        return self._signs

    @property
    def rounds(self):
        """The lot of the rounds."""
        return self._rounds

    @property
    def cuts(self):
        """The lot of the cuts."""
        return self._cuts

    def __len__(self):
        return len(self._rows)

    def __iter__(self):
        return iter(self._rows)

    def __getitem__(self, at):
        if not is_between(at, 0, len(self._rows) - 1):
            raise InvalidNumber(at)
        return self._rows[at]

    def __eq__(self, other):
        return isinstance(other, Table) and self._many == other._many and self._rows == other._rows

    def __str__(self):
        return f"table of {len(self._rows)} rows, {self._many} things"

    def seen(self, weights):
        """The signs of the weighted row."""
        if not is_tuple_of_short(weights, len(self._rows)):
            raise InvalidOperation("not a tuple with an integer for each row")
        return self._signs_seen(weights)

    def _signs_seen(self, weights):
        return signs_of([_weighted(weights, self._column(thing)) for thing in range(self._many)])

    def round_sum(self, row):
        """The whole sum of a round whose integers have no common divisor."""
        self._check_among(row, self._rounds)
        things = things_of(row)
        factors = dependences([self._column(thing) for thing in things])[-1]
        values = _placed(factors, things, self._many)
        if signs_of(values) == row:
            return values
        return _negated(values)

    def cut_weights(self, row):
        """The weights of a cut whose integers have no common divisor."""
        self._check_among(row, self._cuts)
        things = zeros_of(row)
        sums = dependences([tuple([one[thing] for thing in things]) for one in self._first_rows()])
        factors = [one for one in sums if one is not None][0]
        weights = _placed(factors, self._firsts, len(self._rows))
        if self._signs_seen(weights) == row:
            return weights
        return _negated(weights)

    def _check_among(self, row, lot):
        check_row(row, self._many)
        if row not in lot:
            raise Refused(("row",))

    def _column(self, thing):
        return tuple([row[thing] for row in self._rows])

    def upright_table(self):
        """The table whose rounds are the cuts of this one, and the other way round."""
        sums = dependences([self._column(thing) for thing in range(self._many)])
        return _table_of(self._many, tuple([factors for factors in sums if factors is not None]))

    def is_alike(self, other):
        """Whether both tables have equally many things and equal rounds."""
        check_table(other)
        return self._rounds == other.rounds


def _table_of(many, rows):
    """The table with rows of integers that can be longer than those that callers may pass."""
    made = Table(many, ())
    made._tell(many, rows)
    return made


def turned_table(table, things):
    """The table with the signs of all integers turned in the columns of some things."""
    rows = [tuple([-value if at in things else value for at, value in enumerate(row)]) for row in table.rows]
    return _table_of(table.many, tuple(rows))


def _weighted(weights, column):
    return sum([weight * value for weight, value in zip(weights, column)])


def _placed(values, places, size):
    """The tuple of so many integers with the values at their places, and else 0."""
    whole = [0] * size
    for at, place in enumerate(places):
        whole[place] = values[at]
    return tuple(whole)


def _negated(values):
    return tuple([-value for value in values])
