"""Systems of rounds and cuts."""

from sidesigns.errors import InvalidNumber, InvalidOrder, InvalidSystem, Refused, TooMany
from sidesigns.rows.basesigns import cuts_of_signs, rounds_of_signs, signs_by_lot
from sidesigns.rows.codes import code_of, mask_of, mask_of_things, size_of
from sidesigns.rows.rows import MAX_THINGS, Lot, check_lot, check_many, check_things, lot_of
from sidesigns.system.checks import check_base, check_order, check_thing
from sidesigns.system.ranks import base_masks, flat_mask, flats_by_rank, rank_within, sorted_lots, things_in
from sidesigns.system.rounds import rounds_paper
from sidesigns.system.signrules import lots_with_signs
from sidesigns.system.signtables import (joined_signs, kept_signs, opposite_signs, renamed_signs, sign_of_order,
                                         turned_base_signs)
from sidesigns.system.tellings import told_signs
from sidesigns.system.viewing import region_rows
from sidesigns.table.tables import check_table
from sidesigns.things import are_things, others_than

MAX_VIEWS = 7000


def check_system(system):
    """Refuse what is no system."""
    if not isinstance(system, System):
        raise InvalidSystem("not a system")


def check_other_system(system, many):
    """Refuse what is no system of so many things."""
    check_system(system)
    if system.many != many:
        raise InvalidSystem("not a system of equally many things")


class System:
    """A system of things, told by its rounds."""

    def __init__(self, rounds):
        check_lot(rounds)
        told = told_signs(rounds)
        if told is None:
            raise Refused(rounds_paper(rounds))
        rank, signs = told
        self._things = tuple(range(rounds.many))
        self._rank = rank
        self._signs = signs
        self._bases = tuple(lots_with_signs(rounds.many, rank, signs))
        self._rounds = rounds
        self._cuts = cuts_of_signs(rounds.many, rank, signs)

    @classmethod
    def of_cuts(cls, cuts):
        """The system with some cuts."""
        return ~cls(cuts)

    @classmethod
    def of_table(cls, table):
        """The system of a table."""
        check_table(table)
        return _made(table.rank, table.signs, table.rounds, table.cuts)

    @classmethod
    def free(cls, many):
        """The system without rounds."""
        check_many(many)
        return system_of(many, many, "+")

    @property
    def many(self):
        """The number of things."""
        return len(self._things)

    @property
    def rank(self):
        """The number of things of each base."""
        return self._rank

    @property
    def rounds(self):
        """The lot of the rounds."""
        return self._rounds

    @property
    def cuts(self):
        """The lot of the cuts."""
        return self._cuts

    @property
    def signs(self):
        """The base signs."""
        return self._signs

    @property
    def bases(self):
        """The ascending tuple of the bases."""
        return self._bases

    @property
    def loops(self):
        """The things that are in no base."""
        return tuple([thing for thing in self._things if self._bases_with(thing) == 0])

    @property
    def pillars(self):
        """The things that are in every base."""
        return tuple([thing for thing in self._things if self._bases_with(thing) == len(self._bases)])

    def _bases_with(self, thing):
        return len([base for base in self._bases if thing in base])

    @property
    def alike(self):
        """The classes of alike things, by their first things."""
        classes = []
        seen = mask_of_things(self.loops)
        pairs = self._pairs()
        for thing in self._things:
            if seen >> thing & 1 == 0:
                mask = 1 << thing
                for pair in pairs:
                    if pair >> thing & 1 == 1:
                        mask = mask | pair
                seen = seen | mask
                classes.append(things_in(mask))
        return tuple(classes)

    def _pairs(self):
        """The masks of the rounds that have two things."""
        masks = [mask_of(code_of(row)) for row in self._rounds.rows]
        return [mask for mask in masks if size_of(mask) == 2]

    @property
    def is_simple(self):
        """Whether there are no loops and no two things are alike."""
        return all([len(self._things) - row.count("0") > 2 for row in self._rounds.rows])

    @property
    def is_open(self):
        """Whether each round has both signs."""
        return all(["+" in row and "-" in row for row in self._rounds.rows])

    @property
    def is_general(self):
        """Whether each lot of as many things as the rank is a base."""
        return "0" not in self._signs

    def views(self):
        """The lot of all views."""
        return self._cuts.layings()

    def regions(self):
        """The lot of all regions."""
        return lot_of(len(self._things), region_rows(len(self._things), self._rounds.rows))

    def sign(self, order):
        """The sign of an order of as many things as the rank."""
        many = len(self._things)
        if not isinstance(order, tuple) or len(order) != self._rank or not are_things(order, many):
            raise InvalidOrder("not a tuple of as many things as the rank")
        return sign_of_order(signs_by_lot(many, self._rank, self._signs), order)

    def round_of(self, base, thing):
        """The round of a base and a thing outside of it."""
        check_base(base, len(self._things), self._bases)
        check_thing(thing, len(self._things))
        if thing in base:
            raise InvalidNumber(thing)
        return row_within(self._rounds.rows, others_than(base, len(self._things)), thing)

    def cut_of(self, base, thing):
        """The cut of a base and a thing of it."""
        check_base(base, len(self._things), self._bases)
        check_thing(thing, len(self._things))
        if thing not in base:
            raise InvalidNumber(thing)
        return row_within(self._cuts.rows, base, thing)

    def rank_of(self, things):
        """The rank of a lot of things."""
        check_things(things, len(self._things))
        return rank_within(base_masks(self._bases), mask_of_things(things))

    def flat_of(self, things):
        """The flat of a lot of things."""
        check_things(things, len(self._things))
        return things_in(flat_mask(base_masks(self._bases), len(self._things), mask_of_things(things)))

    def flats(self):
        """All flats, by their ranks, those of one rank in Python's order."""
        levels = flats_by_rank(base_masks(self._bases), len(self._things))
        return tuple([lot for masks in levels for lot in sorted_lots(masks)])

    def turned_at(self, things):
        """The system with all rounds turned at some things."""
        many = len(self._things)
        check_things(things, many)
        signs = turned_base_signs(many, self._rank, self._signs, things)
        return _made(self._rank, signs, self._rounds.turned_at(things), self._cuts.turned_at(things))

    def left_out(self, things):
        """The system without some things."""
        check_things(things, len(self._things))
        # Where the other things have a lower rank, some of those that go make it full.
        return self._of_others(things, min(_parts_within(self._bases, things), key=len))

    def shrunk(self, things):
        """The system with some things shrunk."""
        check_things(things, len(self._things))
        return self._of_others(things, max(_parts_within(self._bases, things), key=len))

    def _of_others(self, things, beside):
        """The system of all other things, with some of these standing behind each of its bases."""
        kept = others_than(things, len(self._things))
        signs = kept_signs(len(self._things), self._rank, self._signs, kept, beside)
        return system_of(len(kept), self._rank - len(beside), signs)

    def renamed(self, order):
        """The system whose thing i is the thing with the index i of the order."""
        many = len(self._things)
        check_order(order, many)
        return system_of(many, self._rank, renamed_signs(many, self._rank, self._signs, order))

    def __invert__(self):
        many = len(self._things)
        signs = opposite_signs(many, self._rank, self._signs)
        return _made(many - self._rank, signs, self._cuts, self._rounds)

    def __add__(self, other):
        if not isinstance(other, System):
            return NotImplemented
        first = len(self._things)
        many = first + len(other._things)
        if many > MAX_THINGS:
            raise TooMany(MAX_THINGS)
        rank = self._rank + other._rank
        one_known = signs_by_lot(first, self._rank, self._signs)
        other_known = signs_by_lot(many - first, other._rank, other._signs)
        return system_of(many, rank, joined_signs(one_known, other_known, many, rank, first))

    def __eq__(self, other):
        return isinstance(other, System) and self._rounds == other._rounds

    def __len__(self):
        return len(self._things)

    def __str__(self):
        return f"{len(self._things)} things, rank {self._rank}: {self._signs}"


def system_of(many, rank, signs):
    """The system with base signs that are known to be those of one."""
    return _made(rank, signs, rounds_of_signs(many, rank, signs), cuts_of_signs(many, rank, signs))


def _made(rank, signs, rounds, cuts):
    """The system with parts that are known to go with one another."""
    made = System(Lot(0))
    made._things = tuple(range(rounds.many))
    made._rank = rank
    made._signs = signs
    made._bases = tuple(lots_with_signs(rounds.many, rank, signs))
    made._rounds = rounds
    made._cuts = cuts
    return made


def row_within(rows, barred, thing):
    """The row with "+" at a thing that has no other one of the barred things."""
    for row in rows:
        if row[thing] == "+" and all([row[other] == "0" for other in barred if other != thing]):
            return row
    return None


def _parts_within(bases, things):
    """For each base those of its things that stand in a lot."""
    return [tuple([thing for thing in base if thing in things]) for base in bases]
