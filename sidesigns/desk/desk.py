"""Desks, which keep items under names, and promises about them."""

from sidesigns.desk.promises import is_name, is_promise, is_true, kind_of, names_in
from sidesigns.errors import InvalidNumber, InvalidOperation, NothingToUndo, Refused, TooMany, UnknownName
from sidesigns.integers import is_short
from sidesigns.rows.rows import check_many, check_things, turned
from sidesigns.table.tables import Table, turned_table

MAX_KEPT = 12
MAX_PROMISES = 12


def _check_name(name):
    if not is_name(name):
        raise InvalidOperation("not one to eight letters from a to z")


def _check_known(name, known):
    """Refuse what is no name, or label, under which something is kept."""
    if not isinstance(name, str) or name not in known:
        raise UnknownName(name)


def _turned_item(item, things):
    """An item turned at some things."""
    if isinstance(item, str):
        return turned(item, things)
    if isinstance(item, Table):
        return turned_table(item, things)
    return item.turned_at(things)


def _without(known, name):
    """What is known without what stands under one name."""
    return {one: known[one] for one in known if one != name}


def _check_times(times, deeds):
    """Refuse what is no number of deeds, and more than there are."""
    if not is_short(times) or times < 0:
        raise InvalidNumber(times)
    if times > len(deeds):
        raise NothingToUndo(times)


class Desk:
    """A desk for so many things, which tells how many deeds stand after each of them."""

    def __init__(self, many):
        check_many(many)
        self._many = many
        # Each deed makes new dicts and changes none, so that the old ones can stand for undone deeds.
        self._items = {}
        self._promises = {}
        self._past = []
        self._undone = []

    @property
    def many(self):
        """The number of things."""
        return self._many

    @property
    def names(self):
        """The ascending tuple of the names that have items."""
        return tuple(sorted(list(self._items)))

    @property
    def labels(self):
        """The ascending tuple of the labels that have promises."""
        return tuple(sorted(list(self._promises)))

    @property
    def deeds(self):
        """How many deeds stand."""
        return len(self._past)

    def keep(self, name, item):
        """Keep an item under a name."""
        items = self._with_item(name, item)
        if len(items) > MAX_KEPT:
            raise TooMany(MAX_KEPT)
        return self._done(items, self._promises)

    def _with_item(self, name, item):
        """The items where one stands under a name."""
        _check_name(name)
        if kind_of(item, self._many) is None:
            raise InvalidOperation("not an item of the desk")
        items = dict(self._items)
        items[name] = item
        return items

    def _broken(self, items, promises):
        """The ascending list of the labels of promises that are not true of some items."""
        return [label for label in sorted(list(promises)) if not is_true(promises[label], items, self._many)]

    def _done(self, items, promises):
        """Do a deed that leaves some items and promises."""
        broken = self._broken(items, promises)
        if broken != []:
            raise Refused(("promise", broken[0]))
        self._past.append((self._items, self._promises))
        self._undone = []
        self._items = items
        self._promises = promises
        return len(self._past)

    def turn(self, things):
        """Turn all items at some things."""
        check_things(things, self._many)
        items = {name: _turned_item(item, things) for name, item in self._items.items()}
        return self._done(items, self._promises)

    def drop(self, name):
        """Keep an item no longer."""
        _check_known(name, self._items)
        return self._done(_without(self._items, name), self._promises)

    def promise(self, label, promise):
        """Keep a promise under a label."""
        _check_name(label)
        if not is_promise(promise, self._many):
            raise InvalidOperation("not a promise of the desk")
        if label in self._promises:
            raise Refused(("label", label))
        if len(self._promises) >= MAX_PROMISES:
            raise TooMany(MAX_PROMISES)
        for name in names_in(promise):
            _check_known(name, self._items)
        promises = dict(self._promises)
        promises[label] = promise
        return self._done(self._items, promises)

    def let_go(self, label):
        """Keep a promise no longer."""
        _check_known(label, self._promises)
        return self._done(self._items, _without(self._promises, label))

    def undo(self, *, times=1):
        """Take the last deeds back."""
        _check_times(times, self._past)
        for _ in range(times):
            self._undone.append((self._items, self._promises))
            self._items, self._promises = self._past.pop()
        return len(self._past)

    def redo(self, *, times=1):
        """Do deeds again that were taken back."""
        _check_times(times, self._undone)
        for _ in range(times):
            self._past.append((self._items, self._promises))
            self._items, self._promises = self._undone.pop()
        return len(self._past)

    def during(self, call):
        """What a call of the desk gives; then the desk is as it was before."""
        items, promises, past, undone = self._items, self._promises, list(self._past), list(self._undone)
        try:
            return call(self)
        finally:
            self._items, self._promises, self._past, self._undone = items, promises, past, undone

    def item(self, name):
        """The item under a name."""
        _check_known(name, self._items)
        return self._items[name]

    def promised(self, label):
        """The promise under a label."""
        _check_known(label, self._promises)
        return self._promises[label]

    def broken_by(self, name, item):
        """The labels of the promises that would not be true if an item stood under a name."""
        return tuple(self._broken(self._with_item(name, item), self._promises))

    def twin(self):
        """An equal desk with the same deeds that goes on by itself."""
        made = Desk(self._many)
        made._items = self._items
        made._promises = self._promises
        made._past = list(self._past)
        made._undone = list(self._undone)
        return made

    def __contains__(self, x):
        return isinstance(x, str) and x in self._items

    def __len__(self):
        return len(self._items)

    def __eq__(self, other):
        if not isinstance(other, Desk) or self._many != other._many:
            return False
        return self._items == other._items and self._promises == other._promises

    def __str__(self):
        return f"desk of {self._many} things: {len(self._items)} items, {len(self._promises)} promises"
