"""What several tests share: values of many kinds, wrong calls, and small worlds."""

from itertools import combinations, product

from sidesigns.errors import InvalidNumber, NothingToUndo, ParseError, Refused, TooMany, UnknownName
from sidesigns.best.programs import Program
from sidesigns.desk.desk import Desk
from sidesigns.rows.rows import Lot
from sidesigns.system.systems import System
from sidesigns.table.tables import Table
from sidesigns.web.webs import Web

# What the errors keep that take no message.
KEPT = {InvalidNumber: "value", Refused: "reason", TooMany: "limit", ParseError: "index", UnknownName: "name",
        NothingToUndo: "times"}
DEEP = ((((((((),),),),),),),)

# Values of every kind that [0.4] names. Each call picks those that are wrong for it.
POOL = (
    None, True, False, 0, 1, 2, 3, 4, 8, 9, 10, -1, 10 ** 59, 10 ** 60, -10 ** 60, 10 ** 99,
    "", "+", "0", "+-0", "-+0", "0+-", "+++", "0--", "++++", "+" * 10, "0" * 3000, "x", "+-x", "x-0", "+x0", "+-0 ", " +-0",
        "+\n0",
    "+-0\n", "+-1", "111", "abc", "\n",
    (), (0,), (1,), (2,), (3,), (0, 1), (1, 2), (0, 1, 2), (1, 0), (0, 0), (1, 1), (-1, 0), (0, 9), (0, 10 ** 60),
    (True,), (False,), (0, True), (False, True), (None,), ("0",), ("+",), ("+-0",), ("+-0", "0"), ("+-0", None),
    ("+-0", 5), ("+-0", ("0+-",)), ((0,),), ((),), ((1, 2), (3, 4)), ((1, True), (0, 1)), ((1, 2), [0, 1]), DEEP,
    [], [0], [0, 1], ["+-0"], [[1, 2], [3, 4]], ([1, 2], [3, 4]), {}, {0: 1}, {"+-0": True}, {"a": [(), {}]},
    Lot(0), Lot(3), Lot(3, ("+-0", "-+0")), Table(0, ()), Table(3, ((1, 2, 3),)),
    System.free(0), System.free(3), System(Lot(3, ("+-0", "-+0"))), Program(System.free(2), 0, 1),
    "r", "rsa", "srr", "ao", "acos", "roc", "co", (((0,), ()),), ((1, 0), (1,)), ((), ()), ((0, 1), [0]), ((0, 1), (True,)),
    ("pair",), ("views",), ("right",), ("member",), ("round", "+-0"), ("cut", "00+"), ((0, "+"),), ((0, "+"), (0, "-")),
    ((1, 2), (0, 2), (0, 1)), {"+": "-", "-": "+"},
    Web(0, ()), Web(3, ((0, 1), (1, 2), (2, 0))), Desk(3), "lot 3\n+-0", "system 3 2 +++", ((0, 1), (1, 2), (2, 0)),
        ((0, 1), (1, 3)),
    ("signs", ()), ("odd", ()), ("levels", (0, 1, 2)), ("amounts", (1, 1, 1)), ("cut", "+0+"), ("simplex", "+++"),
    ("products", (), (0, 1, 2, 3)), ("less", ((0, 1), (2, 3)), ((0, 2), (1, 3))), (((0, "+"),), ((1, "+"),)),
        (((0, "+"), (1, "-")),),
    {(0, 1): 0, (0, 2): 0, (1, 2): 0}, {(False, True): 0}, ("open", "a"), ("upright", "r", "s"), "a", "abcdefgh", "abcdefghi",
)


def is_plain(value):
    return isinstance(value, int) and not isinstance(value, bool)


def is_between(value, least, most):
    return is_plain(value) and least <= value <= most


def is_row(value, many=None):
    if not isinstance(value, str) or not all(sign in ("+", "-", "0") for sign in value):
        return False
    return len(value) <= 9 if many is None else len(value) == many


def is_things(value, many):
    if not isinstance(value, tuple) or not all(is_between(thing, 0, many - 1) for thing in value):
        return False
    return all(one < other for one, other in zip(value, value[1:]))


def wrong(is_right):
    """The values of the pool that are not right."""
    return [value for value in POOL if not is_right(value)]


def error_of(call):
    """The error that a call raises; None if it raises none."""
    try:
        call()
    except Exception as error:
        return error
    return None


def told_by(error):
    """The kind of an error and what it keeps."""
    kept = KEPT.get(error.__class__)
    return (error.__class__, None if kept is None else getattr(error, kept))


def keeps(error, kind, value):
    """Whether an error is just of this kind, and keeps the wrong value if it keeps one."""
    if error.__class__ is not kind:
        return False
    return kind not in (InvalidNumber, UnknownName) or getattr(error, KEPT[kind]) is value


class Wrong:
    """A call with right arguments, and what is wrong for each of them."""

    def __init__(self, call, right, kinds, named=()):
        self.call = call
        self.right = right
        # For each parameter: the error, and the test for what is right.
        self.kinds = kinds
        self.named = named

    def _run(self, told):
        split = len(told) - len(self.named)
        result = self.call(*told[:split], **dict(zip(self.named, told[split:])))
        if hasattr(result, "__next__"):
            next(result)

    def check(self, case):
        """Each wrong argument, and each two of them: the first one decides."""
        self._run(self.right)
        for at, (kind, is_right) in enumerate(self.kinds):
            values = wrong(is_right)
            case.assertGreater(len(values), 20)
            for value in values:
                self._check_one(case, at, kind, value)
        for one, other in combinations(range(len(self.kinds)), 2):
            self._check_two(case, one, other)

    def _check_one(self, case, at, kind, value):
        told = list(self.right)
        told[at] = value
        error = error_of(lambda: self._run(told))
        case.assertTrue(keeps(error, kind, value), (self.call, told, error))

    def _check_two(self, case, one, other):
        kind, is_right = self.kinds[one]
        for value, second in product(wrong(is_right)[::7], wrong(self.kinds[other][1])[::5]):
            told = list(self.right)
            told[one], told[other] = value, second
            error = error_of(lambda: self._run(told))
            case.assertTrue(keeps(error, kind, value), (self.call, told, error))


def variants(value):
    """Values that are nearly a told one: with other members, with more and fewer, of another kind."""
    if isinstance(value, bool) or value is None:
        return [not value, int(bool(value))]
    if isinstance(value, int):
        return [value + 1, -value, str(value), (value,)] + ([bool(value)] if value in (0, 1) else [])
    if isinstance(value, str):
        return [value + " ", value[:-1], value + "+", opposite(value) if is_row(value) else value.upper(), (value,), [value]]
    if isinstance(value, tuple):
        found = [list(value), value[:-1], value + value[-1:], value + (None,), value[::-1], dict(enumerate(value))]
        for at, member in enumerate(value):
            found.extend(value[:at] + (other,) + value[at + 1:] for other in [*variants(member), *POOL[::3]])
        return found
    found = [list(value), list(value.items()), {**value, "x": 1}, {**value, (0, 0): 1}]
    for key, member in value.items():
        rest = {other: worth for other, worth in value.items() if other != key}
        found.append(rest)
        found.extend({**rest, key: other} for other in [*variants(member), *POOL[::7]])
        found.extend({**rest, other: member} for other in variants(key) if is_hashed(other))
    return found


def is_hashed(value):
    return error_of(lambda: hash(value)) is None


def check_judged(case, judge, right, is_right, step=1):
    """Some right values are right, and of all that are nearly so just those of which a test says so."""
    for value in right:
        case.assertIs(judge(value), True, value)
        for other in variants(value)[::step]:
            case.assertIs(judge(other), is_right(other), (value, other))
    for value in POOL:
        case.assertIs(judge(value), is_right(value), value)


def among(right):
    """The test whether a value is one of some others, where True is not 1."""
    told = {repr(value) for value in right}
    return lambda value: repr(value) in told


def rows_of(many):
    return ["".join(signs) for signs in product("+-0", repeat=many)]


def lots_of_rows(many, sizes):
    """All lots of so many rows of so many signs."""
    return [Lot(many, rows) for size in sizes for rows in combinations(rows_of(many), size)]


def opposite(row):
    return "".join({"+": "-", "-": "+", "0": "0"}[sign] for sign in row)


def has(row):
    return {thing for thing, sign in enumerate(row) if sign != "0"}


def apart_at(one, other):
    return {thing for thing in has(one) & has(other) if one[thing] != other[thing]}


def are_upright(one, other):
    common = has(one) & has(other)
    parted = apart_at(one, other)
    return not common or (bool(parted) and parted != common)


def over(one, other):
    return "".join(second if first == "0" else first for first, second in zip(one, other))


def least_rows(rows):
    """The rows with things within which no other row lies but those with the same things."""
    own = [row for row in rows if has(row)]
    return sorted(row for row in own if not any(has(other) < has(row) for other in own))


def uprights_to(rows, many):
    return [row for row in rows_of(many) if all(are_upright(row, other) for other in rows)]


def all_layings(rows, many):
    found = {"0" * many}
    while True:
        more = found | {over(one, other) for one in found for other in rows}
        if more == found:
            return sorted(found)
        found = more


def sign(value):
    return "+" if value > 0 else "-" if value < 0 else "0"


def signs_of(values):
    return "".join(sign(value) for value in values)


def small_tables(many, height, least, most):
    """All tables of so many things and rows with integers from the least to the most."""
    rows = list(product(range(least, most + 1), repeat=many))
    return [Table(many, chosen) for chosen in product(rows, repeat=height)]


def curve(many, rank):
    """The table with the rows 1, x, x * x, .. ."""
    return Table(many, tuple(tuple(x ** power for x in range(many)) for power in range(rank)))
