"""Webs of ways: [13.1] to [13.6] and class Web."""

import unittest
from itertools import combinations_with_replacement, product

from sidesigns.errors import InvalidNumber, InvalidOperation, InvalidWeb
from sidesigns.system.rounds import rounds_paper
from sidesigns.system.systems import System
from sidesigns.web.webs import Web
from support import POOL, Wrong, among, check_judged, error_of, is_between, is_plain, is_things, opposite, told_by
from worlds import all_things


def small_webs(places, size):
    """All webs of so many places and ways; those of four ways but for the order of the ways."""
    ways = list(product(range(places), repeat=2))
    chosen = product(ways, repeat=size) if size < 4 else combinations_with_replacement(ways, size)
    return [Web(places, one) for one in chosen]


SMALL = [web for places in range(4) for size in range(5) for web in small_webs(places, size)]
# Four places, some ways in other orders.
FOUR_PLACES = [Web(4, (web.ways[1:] + web.ways[:1])[::-1]) for web in small_webs(4, 4)[::29]]


def great_web(places, size, step):
    """A web of so many places and ways that a plain rule picks."""
    return Web(places, tuple(((at * at * step + at) % places, (at * (step + 2) + step) % places) for at in range(size)))


GREAT = [great_web(places, size, step) for places in (5, 8) for size in (7, 9) for step in range(1, 9)] + [
    Web(8, tuple((at, at + 1) for at in range(7)) + ((7, 0), (0, 4))), Web(8, ()), Web(1, ((0, 0),) * 9),
    Web(2, ((0, 1),) * 4 + ((1, 0),) * 5), Web(4, ((0, 1), (0, 2), (0, 3), (1, 2), (1, 3), (2, 3), (3, 0), (2, 2), (1, 0))),
    Web(8, ((0, 1), (1, 2), (2, 0), (3, 4), (4, 5), (5, 3), (6, 7), (7, 6), (6, 6)))]
SOME = SMALL[::7] + FOUR_PLACES[::3] + GREAT


def plain_rounds(web):
    """The rows of all closed walks [13.2]."""
    found = set()
    for start in range(web.places):
        walks = [(start, (), (start,))]
        while walks:
            place, used, seen = walks.pop()
            for way, (first, last) in enumerate(web.ways):
                for begin, end, sign in ((first, last, "+"), (last, first, "-")):
                    if begin == place and way not in [one for one, _ in used]:
                        told = used + ((way, sign),)
                        if end == start:
                            found.add("".join(dict(told).get(one, "0") for one in range(len(web.ways))))
                        elif end not in seen:
                            walks.append((end, told, seen + (end,)))
    return sorted(found)


def plain_pieces(places, ways):
    """The greatest lots of some places that hang together by ways."""
    pieces = [{place} for place in places]
    for first, last in ways:
        joined = [piece for piece in pieces if first in piece or last in piece]
        pieces = [piece for piece in pieces if piece not in joined] + [set().union(*joined)]
    return sorted(tuple(sorted(piece)) for piece in pieces)


def plain_cuts(web):
    """The rows that come of parting pieces into two [13.3]."""
    found = set()
    for piece in plain_pieces(range(web.places), web.ways):
        for chosen in all_things(len(piece)):
            one = [piece[at] for at in chosen]
            other = [place for place in piece if place not in one]
            if one and other and all(len(plain_pieces(part, within(web.ways, part))) == 1 for part in (one, other)):
                found.add("".join("0" if (first in one) == (last in one) else "+" if first in one else "-"
                                  for first, last in web.ways))
    return sorted(found)


def within(ways, places):
    return [way for way in ways if way[0] in places and way[1] in places]


def plus_rows(rows):
    return [row for row in rows if "-" not in row]


def turned(row, things):
    return "".join(opposite(sign) if at in things else sign for at, sign in enumerate(row))


def longest_walk(web, place):
    """How many ways the longest walk along ways has that ends at a place, if there is no round without "-"."""
    return max([longest_walk(web, first) + 1 for first, last in web.ways if last == place], default=0)


def is_levels(web, value):
    """Whether a value tells integers of any size as in [13.5]."""
    if not isinstance(value, tuple) or len(value) != 2 or value[0] != "levels" or not isinstance(value[1], tuple):
        return False
    numbers = value[1]
    if len(numbers) != web.places or not all(is_plain(number) for number in numbers):
        return False
    return all(numbers[first] < numbers[last] for first, last in web.ways)


def is_amounts(web, value):
    if not isinstance(value, tuple) or len(value) != 2 or value[0] != "amounts" or not isinstance(value[1], tuple):
        return False
    amounts = value[1]
    if len(amounts) != len(web.ways) or not all(is_plain(amount) and amount >= 1 for amount in amounts):
        return False
    return all(sum(amount for amount, way in zip(amounts, web.ways) if way[0] == place) == sum(
        amount for amount, way in zip(amounts, web.ways) if way[1] == place) for place in range(web.places))


class RoundsTest(unittest.TestCase):
    def test_rounds_and_cuts(self):
        """[13.2], [13.3]."""
        for web in SMALL + FOUR_PLACES + GREAT:
            self.assertEqual(list(web.system.rounds), plain_rounds(web))
            self.assertEqual(list(web.system.cuts), plain_cuts(web))

    def test_system(self):
        for web in SOME:
            self.assertEqual(rounds_paper(web.system.rounds), ("rounds",))
            self.assertEqual(System(web.system.rounds), web.system)
            self.assertEqual(web.system.many, len(web.ways))
            self.assertEqual(web.system.rank, web.places - len(web.pieces()))

    def test_pieces(self):
        """[13.1]."""
        for web in SMALL + FOUR_PLACES + GREAT:
            self.assertEqual(web.pieces(), tuple(plain_pieces(range(web.places), web.ways)))
        self.assertEqual(Web(5, ((3, 1), (4, 4))).pieces(), ((0,), (1, 3), (2,), (4,)))

    def test_turned_ways(self):
        for web in SOME:
            size = len(web.ways)
            for things in ((), tuple(range(size)), tuple(range(0, size, 2)), tuple(range(size))[-1:]):
                other = web.turned_ways(things)
                self.assertEqual(other.ways, tuple(way[::-1] if at in things else way for at, way in enumerate(web.ways)))
                self.assertEqual(other.places, web.places)
                self.assertEqual(other.system, web.system.turned_at(things))
                self.assertEqual(other.turned_ways(things), web)


class PapersTest(unittest.TestCase):
    def test_way_papers(self):
        """[13.4]."""
        for web in SMALL + FOUR_PLACES + GREAT:
            rounds, cuts = plus_rows(plain_rounds(web)), plus_rows(plain_cuts(web))
            for way in range(len(web.ways)):
                with_way = [[row for row in rows if row[way] == "+"] for rows in (rounds, cuts)]
                self.assertIs(bool(with_way[0]), not with_way[1])
                expected = ("round", with_way[0][0]) if with_way[0] else ("cut", with_way[1][0])
                self.assertEqual(web.way_paper(way), expected)

    def test_way_papers_judged(self):
        for web in SOME[::2]:
            papers = [(word, row) for word in ("round", "cut") for row in
                      {*web.system.rounds, *web.system.cuts, "+" * len(web.ways), "0" * len(web.ways)}]
            for way in range(len(web.ways)):
                for word, row in papers:
                    rows = web.system.rounds if word == "round" else web.system.cuts
                    right = row in rows and "-" not in row and row[way] == "+"
                    self.assertIs(web.is_way_paper(way, (word, row)), right)

    def test_ringless(self):
        """[13.5]."""
        seen = set()
        for web in SMALL + FOUR_PLACES + GREAT:
            rounds = plus_rows(plain_rounds(web))
            paper = web.ringless_paper()
            seen.add(paper[0])
            if rounds:
                self.assertEqual(paper, ("round", rounds[0]))
            else:
                self.assertEqual(paper, ("levels", tuple(longest_walk(web, place) for place in range(web.places))))
                self.assertTrue(is_levels(web, paper))
            for told in [("round", row) for row in web.system.rounds] + [("levels", (0,) * web.places)]:
                self.assertIs(web.is_ringless_paper(told), told[1] in rounds or is_levels(web, told))
            self.assertIs(web.is_ringless_paper(paper), True)
        self.assertEqual(seen, {"round", "levels"})

    def test_all_small_levels(self):
        """[13.5]: levels exist exactly if the web is ringless."""
        for web in [one for one in SMALL if one.places == 3][::5]:
            found = [levels for levels in product(range(3), repeat=3) if is_levels(web, ("levels", levels))]
            self.assertIs(bool(found), web.ringless_paper()[0] == "levels")
            for levels in product(range(-1, 3), repeat=3):
                self.assertIs(web.is_ringless_paper(("levels", levels)), is_levels(web, ("levels", levels)))

    def test_around(self):
        """[13.5]."""
        seen = set()
        for web in SMALL + FOUR_PLACES + GREAT:
            cuts = plus_rows(plain_cuts(web))
            paper = web.around_paper()
            seen.add(paper[0])
            if cuts:
                self.assertEqual(paper, ("cut", cuts[0]))
            else:
                self.assertTrue(is_amounts(web, paper))
                self.assertTrue(all(1 <= amount <= 100 for amount in paper[1]))
            for told in [("cut", row) for row in web.system.cuts] + [("amounts", (1,) * len(web.ways))]:
                self.assertIs(web.is_around_paper(told), told[1] in cuts or is_amounts(web, told))
            self.assertIs(web.is_around_paper(paper), True)
        self.assertEqual(seen, {"cut", "amounts"})

    def test_all_small_amounts(self):
        for web in [one for one in SMALL if len(one.ways) == 3][::3]:
            found = [amounts for amounts in product(range(1, 4), repeat=3) if is_amounts(web, ("amounts", amounts))]
            self.assertIs(bool(found), web.around_paper()[0] == "amounts")
            for amounts in product(range(-1, 3), repeat=3):
                self.assertIs(web.is_around_paper(("amounts", amounts)), is_amounts(web, ("amounts", amounts)))

    def test_integers_of_any_size(self):
        ring = Web(3, ((0, 1), (1, 2), (2, 0)))
        path = Web(3, ((0, 1), (1, 2)))
        for great in (1, 100, 101, 10 ** 60, 10 ** 99, 10 ** 300):
            self.assertIs(ring.is_around_paper(("amounts", (great,) * 3)), True)
            self.assertIs(ring.is_around_paper(("amounts", (great, great, great + 1))), False)
            self.assertIs(ring.is_around_paper(("amounts", (-great,) * 3)), False)
            self.assertIs(path.is_ringless_paper(("levels", (-great, 0, great))), True)
            self.assertIs(path.is_ringless_paper(("levels", (0, great, great))), False)
        self.assertIs(ring.is_around_paper(("amounts", (0,) * 3)), False)

    def test_opposite_ways(self):
        web = Web(2, ((0, 1), (1, 0)))
        self.assertEqual(list(web.system.rounds), ["++", "--"])
        self.assertEqual(list(web.system.cuts), ["+-", "-+"])
        self.assertEqual((web.ringless_paper(), web.around_paper()[0]), (("round", "++"), "amounts"))
        web = Web(2, ((0, 1), (0, 1)))
        self.assertEqual((web.ringless_paper(), web.around_paper()), (("levels", (0, 1)), ("cut", "++")))
        web = Web(1, ((0, 0),))
        self.assertEqual((web.ringless_paper(), web.around_paper(), web.way_paper(0)),
                         (("round", "+"), ("amounts", (1,)), ("round", "+")))

    def test_without_places_or_ways(self):
        for places in range(9):
            web = Web(places, ())
            self.assertEqual((web.ringless_paper(), web.around_paper()), (("levels", (0,) * places), ("amounts", ())))
            self.assertEqual((web.ringless_count(), web.around_count(), len(web)), (1, 1, 0))
            self.assertEqual(web.pieces(), tuple((place,) for place in range(places)))
            self.assertEqual(web.system, System.free(0))
            self.assertEqual(told_by(error_of(lambda: web.way_paper(0))), (InvalidNumber, 0))

    def test_no_other_value(self):
        for web in (Web(3, ((0, 1), (1, 2), (2, 0))), Web(3, ((0, 1), (1, 2))), Web(3, ((0, 1), (1, 2), (0, 2), (2, 1))),
                    Web(2, ((0, 0), (0, 1)))):
            rounds = [("round", row) for row in plus_rows(plain_rounds(web))]
            cuts = [("cut", row) for row in plus_rows(plain_cuts(web))]
            for way in range(len(web.ways)):
                right = [paper for paper in rounds + cuts if paper[1][way] == "+"]
                check_judged(self, lambda value: web.is_way_paper(way, value), right, among(right))
            paper = web.ringless_paper()
            check_judged(self, web.is_ringless_paper, rounds + [paper],
                         lambda value: among(rounds)(value) or is_levels(web, value))
            paper = web.around_paper()
            check_judged(self, web.is_around_paper, cuts + [paper], lambda value: among(cuts)(value) or is_amounts(web, value))


class CountTest(unittest.TestCase):
    def test_counts(self):
        """[13.6], by all lots of ways."""
        for web in SMALL + FOUR_PLACES + GREAT[::5]:
            rounds, cuts = plain_rounds(web), plain_cuts(web)
            lots = all_things(len(web.ways))
            self.assertEqual(web.ringless_count(), len([lot for lot in lots if not plus_rows(turned(row,
                                                                                                    lot) for row in rounds)]))
            self.assertEqual(web.around_count(), len([lot for lot in lots if not plus_rows(turned(row, lot) for row in cuts)]))

    def test_without_a_way(self):
        """[13.6], one way less."""
        for web in SOME:
            for way, (first, last) in enumerate(web.ways):
                ways = web.ways[:way] + web.ways[way + 1:]
                left = Web(web.places, ways)
                if first == last:
                    self.assertEqual((web.ringless_count(), web.around_count()), (0, 2 * left.around_count()))
                elif len(left.pieces()) > len(web.pieces()):
                    self.assertEqual((web.ringless_count(), web.around_count()), (2 * left.ringless_count(), 0))
                else:
                    joined = Web(web.places, tuple(tuple(first if place == last else place for place in one) for one in ways))
                    self.assertEqual(web.ringless_count(), left.ringless_count() + joined.ringless_count())
                    self.assertEqual(web.around_count(), left.around_count() + joined.around_count())


class ClassTest(unittest.TestCase):
    def test_wrong_arguments(self):
        def is_ways(value, places):
            return isinstance(value, tuple) and len(value) <= 9 and all(
                isinstance(way, tuple) and len(way) == 2 and all(is_between(place, 0,
                                                                            places - 1) for place in way) for way in value)
        kinds = ((InvalidWeb, lambda value: is_between(value, 0, 8)), (InvalidWeb, lambda value: is_ways(value, 3)))
        Wrong(Web, (3, ((0, 1), (2, 2))), kinds).check(self)
        web = Web(3, ((0, 1), (1, 2), (2, 0)))
        Wrong(web.turned_ways, ((0, 2),), ((InvalidOperation, lambda value: is_things(value, 3)),)).check(self)
        is_way = (InvalidNumber, lambda value: is_between(value, 0, 2))
        Wrong(web.way_paper, (0,), (is_way,)).check(self)
        Wrong(lambda way: web.is_way_paper(way, None), (0,), (is_way,)).check(self)

    def test_limits(self):
        for places, ways in ((9, ()), (-1, ()), (10 ** 60, ()), (2, ((0, 1),) * 10), (2, ((0, 2),)), (2, ((-1, 0),)),
                             (0, ((0, 0),)),
                             (2, ((0,),)), (2, ((0, 1, 1),)), (2, ([0, 1],)), (2, [(0, 1)]), (2, ((0, True),)), (2, ("01",)),
                             (2, (0, 1))):
            self.assertEqual(error_of(lambda: Web(places, ways)).__class__, InvalidWeb)
        self.assertEqual(len(Web(8, ((7, 7),) * 9)), 9)

    def test_wrong_web(self):
        web = Web(2, ((0, 1),))
        self.assertEqual(error_of(lambda: web.is_way_paper(1, ("cut", "+"))).__class__, InvalidNumber)

    def test_equality(self):
        webs = SMALL[:60]
        for one, other in product(webs, repeat=2):
            same = (one.places, one.ways) == (other.places, other.ways)
            self.assertIs(one == other, same)
            self.assertIs(one != other, not same)
        for value in POOL:
            if not isinstance(value, Web):
                self.assertIs(webs[5] == value, False)
                self.assertIs(webs[5] != value, True)
        self.assertEqual(Web(2, ((0, 1),)), Web(2, ((0, 1),)))
        self.assertNotEqual(Web(2, ((0, 1), (1, 0))), Web(2, ((1, 0), (0, 1))))

    def test_string_and_length(self):
        self.assertEqual(str(Web(3, ((0, 1), (1, 2)))), "web of 3 places: 0-1 1-2")
        self.assertEqual([str(Web(0, ())), str(Web(1, ()))], ["web of 0 places:", "web of 1 places:"])
        self.assertEqual([len(web) for web in GREAT[:2]], [7, 7])
        self.assertEqual(str(Web(8, ((7, 7),))), "web of 8 places: 7-7")

    def test_no_other_operators(self):
        web = Web(2, ((0, 1),))
        for call in (lambda: iter(web), lambda: web + web, lambda: web < web, lambda: web[0], lambda: ~web,
                     lambda: (0, 1) in web):
            self.assertEqual(error_of(call).__class__, TypeError)

    def test_nothing_changes(self):
        """[0.2]."""
        for web in SOME:
            told = (web.places, web.ways, web.system.signs)
            results = [[web.pieces(), web.ringless_paper(), web.around_paper(), web.ringless_count(), web.around_count(),
                        web.turned_ways(())] for _ in range(2)]
            self.assertEqual(results[0], results[1])
            self.assertEqual((web.places, web.ways, web.system.signs), told)
            self.assertEqual(Web(web.places, web.ways), web)


if __name__ == "__main__":
    unittest.main()
