"""Drawings: [0.25], [15.1] to [15.7] and the functions of stage 15."""

import unittest
from itertools import combinations, product

from sidesigns.draw.drawings import comparisons, is_bar, is_drawn_by, is_weights, points_of, weights_or_bar
from sidesigns.errors import InvalidOperation, InvalidSystem, InvalidTable, Refused, TooMany
from sidesigns.system.systems import System
from sidesigns.table.tables import Table, determinant
from support import POOL, Wrong, check_judged, curve, error_of, is_plain, opposite, told_by
from worlds import (COLUMNED, CURVES, FIVE, FOUR, LINE, MIXED, PLANE, SIX, TINY, bent, eight, lots, sign_in,
                    some_tables, times)

SOME = TINY + FOUR + FIVE + COLUMNED[::9] + SIX + [LINE, PLANE, MIXED]
EIGHT = eight()
BENT = bent()
BAR = {("less", ((0, 4, 6, 7), (2, 4, 5, 6)), ((0, 4, 5, 6), (2, 4, 6, 7))): 1,
       ("equal", ((0, 1, 2, 4), (0, 2, 3, 6)), ((0, 1, 2, 6), (0, 2, 3, 4))): -1,
       ("equal", ((0, 1, 2, 4), (0, 4, 5, 6)), ((0, 1, 4, 6), (0, 2, 4, 5))): 1,
       ("equal", ((0, 1, 2, 6), (0, 4, 6, 7)), ((0, 1, 4, 6), (0, 2, 6, 7))): -1,
       ("equal", ((0, 2, 3, 4), (2, 4, 5, 6)), ((0, 2, 4, 5), (2, 3, 4, 6))): -1,
       ("equal", ((0, 2, 3, 6), (2, 4, 6, 7)), ((0, 2, 6, 7), (2, 3, 4, 6))): 1}


def pair_of(lot, one, other):
    return tuple(sorted([tuple(sorted(lot + one)), tuple(sorted(lot + other))]))


def plain_comparisons(system):
    """[15.2]."""
    signs = dict(zip(lots(system.many, system.rank), system.signs))
    found = []
    for lot in lots(system.many, system.rank - 2) if system.rank >= 2 else ():
        for a, b, c, d in combinations([thing for thing in range(system.many) if thing not in lot], 4):
            told = []
            for at, (one, other) in enumerate((((a, b), (c, d)), ((a, c), (b, d)), ((a, d), (b, c)))):
                sign = times(sign_in(signs, lot + one), sign_in(signs, lot + other))
                told.append((opposite(sign) if at == 1 else sign, pair_of(lot, one, other)))
            own = [sign for sign, _ in told if sign != "0"]
            if len(own) == 3:
                rare = next(sign for sign in own if own.count(sign) == 1)
                great = next(pair for sign, pair in told if sign == rare)
                found.extend(("less", pair, great) for _, pair in told if pair != great)
            elif own:
                found.append(("equal", *sorted(pair for sign, pair in told if sign != "0")))
    return tuple(sorted(found))


def is_kept(weights, comparison):
    """[15.3]."""
    word, pair, other = comparison
    less, great = sum(weights[base] for base in pair), sum(weights[base] for base in other)
    return less < great if word == "less" else less == great


def are_plain_things(value):
    return isinstance(value, tuple) and all(is_plain(thing) for thing in value)


def is_short(value):
    return is_plain(value) and len(str(abs(value))) <= 60


def are_weights(system, value, looked):
    if not isinstance(value, dict) or not all(are_plain_things(key) for key in value):
        return False
    if sorted(value) != sorted(system.bases) or not all(is_short(weight) for weight in value.values()):
        return False
    return all(is_kept(value, one) for one in looked)


def is_plain_bar(system, value, known):
    """[15.4]."""
    if not isinstance(value, dict) or not all(repr(key) in known for key in value):
        return False
    if not all(is_short(one) and one != 0 for one in value.values()):
        return False
    less = [one for key, one in value.items() if key[0] == "less"]
    if not less or min(less) < 0:
        return False
    for base in system.bases:
        sums = [sum(one for key, one in value.items() if base in key[place]) for place in (1, 2)]
        if sums[0] != sums[1]:
            return False
    return True


class DrawnTest(unittest.TestCase):
    def test_is_drawn_by(self):
        """[15.1]."""
        tables = [Table(3, rows) for rows in product(product((-1, 0, 1), repeat=3), repeat=2)][::7] + [Table(3, ()),
                Table(4, ()), Table(0, ())]
        for system in TINY:
            for table in tables:
                expected = table.many == system.many and table.rounds == system.rounds
                self.assertIs(is_drawn_by(system, table), expected)
        for table in some_tables(5, 3, 3) + some_tables(6, 3, 9):
            self.assertIs(is_drawn_by(System.of_table(table), table), True)
            self.assertIs(is_drawn_by(System.of_table(table), table.upright_table().upright_table()), True)
            other = table.upright_table()
            self.assertIs(is_drawn_by(~System.of_table(table), other), True)
            self.assertIs(is_drawn_by(System.of_table(table), other), table.rounds == other.rounds)

    def test_tables_with_rows_that_depend(self):
        for table in some_tables(5, 3, 3)[::4] + some_tables(4, 2, 5)[::4]:
            system = System.of_table(table)
            total = tuple(sum(row[at] for row in table.rows) for at in range(table.many))
            for rows in ((total,) + table.rows, table.rows + (total, total), ((0,) * table.many,) + table.rows,
                         tuple(tuple(-3 * one for one in row) for row in table.rows[::-1])):
                self.assertIs(is_drawn_by(system, Table(table.many, rows)), True)
            turned = tuple((-row[0],) + row[1:] for row in table.rows)
            self.assertIs(is_drawn_by(system, Table(table.many, turned)), system.turned_at((0,)) == system)

    def test_values(self):
        """[15.1]: the products P, Q and R of a table."""
        for table in some_tables(6, 3, 11)[:6] + [curve(6, 4)]:
            for lot in lots(6, table.rank - 2) if table.rank == len(table.rows) else ():
                for a, b, c, d in combinations([thing for thing in range(6) if thing not in lot], 4):
                    p, q, r = [value(table, lot + one) * value(table, lot + other) for one, other in (
                        ((a, b), (c, d)), ((a, c), (b, d)), ((a, d), (b, c)))]
                    self.assertEqual(p - q + r, 0)

    def test_points(self):
        """[15.7]."""
        seen = set()
        for system in SOME + CURVES + [EIGHT, BENT, System.of_table(curve(9, 7)), System.of_table(curve(9, 2))]:
            if system.rank > 2 and system.many - system.rank > 2:
                self.assertEqual(told_by(error_of(lambda: points_of(system))), (Refused, ("size",)))
            else:
                table = points_of(system)
                seen.add((system.rank, system.many - system.rank))
                self.assertTrue(is_drawn_by(system, table))
                self.assertTrue(all(abs(one) < 10 ** 60 for row in table.rows for one in row))
                self.assertEqual(Table(table.many, table.rows), table)
        self.assertTrue({(0, 0), (0, 3), (1, 0), (1, 3), (2, 0), (2, 2), (2, 5), (3, 0), (4, 1), (4, 2), (5, 2)} <= seen)

    def test_points_of_all_systems_of_low_rank(self):
        for system in COLUMNED[::2] + [~one for one in COLUMNED[1::4]]:
            if system.rank <= 2 or system.many - system.rank <= 2:
                self.assertTrue(is_drawn_by(system, points_of(system)))


def value(table, order):
    return determinant(tuple(tuple(row[thing] for thing in order) for row in table.rows))


class ComparisonsTest(unittest.TestCase):
    def test_comparisons(self):
        """[15.2]."""
        for system in SOME + CURVES[::3] + [EIGHT, BENT]:
            self.assertEqual(comparisons(system), plain_comparisons(system))

    def test_numbers(self):
        self.assertEqual([len(comparisons(System.of_table(curve(7, rank)))) for rank in range(8)],
                         [0, 0, 70, 210, 210, 70, 0, 0])
        for system in SOME:
            if system.rank < 2 or system.many - system.rank < 2:
                self.assertEqual(comparisons(system), ())

    def test_tables_keep_them(self):
        """[15.2], [15.6]: the sizes of the values of a table, multiplied, are as the comparisons tell."""
        for table in some_tables(6, 3, 11)[:8] + some_tables(5, 2, 7) + [curve(6, 4), curve(7, 3)]:
            if table.rank == len(table.rows):
                sizes = {lot: abs(value(table, lot)) for lot in lots(table.many, table.rank)}
                for word, pair, other in comparisons(System.of_table(table)):
                    less, great = [sizes[one[0]] * sizes[one[1]] for one in (pair, other)]
                    self.assertTrue(less < great if word == "less" else less == great)

    def test_opposites(self):
        """The opposite system has the comparisons of the lots of all other things."""
        for system in SOME[::3] + [EIGHT]:
            def other(pair):
                return tuple(sorted(tuple(thing for thing in range(system.many) if thing not in base) for base in pair))
            expected = [(word, *(sorted([other(pair), other(great)]) if word == "equal" else (other(pair), other(great))))
                        for word, pair, great in comparisons(system)]
            self.assertEqual(comparisons(~system), tuple(sorted(expected)))

    def test_turning_keeps_them(self):
        for system in SOME[::5] + [EIGHT]:
            self.assertEqual(comparisons(system.turned_at(tuple(range(0, system.many, 2)))), comparisons(system))


class EitherTest(unittest.TestCase):
    def check_paper(self, system, only, word=None):
        """[15.5]: weights or a bar, as the plain words ask, and whether they are judged right."""
        paper = weights_or_bar(system, only=only)
        looked = comparisons(system) if only is None else only
        if word is not None:
            self.assertEqual(paper[0], word)
        self.assertEqual(list(paper[1]), sorted(paper[1]))
        if paper[0] == "weights":
            self.assertTrue(are_weights(system, paper[1], looked))
            self.assertIs(is_weights(system, paper[1], only=only), True)
        else:
            self.assertTrue(is_plain_bar(system, paper[1], {repr(one) for one in looked}))
            self.assertIs(is_bar(system, paper[1]), True)
        return paper

    def test_drawn_systems_have_weights(self):
        """[15.6]."""
        for system in SOME + CURVES + [System.of_table(table) for table in some_tables(7, 3, 7)[:9]]:
            if len(comparisons(system)) <= 210:
                self.check_paper(system, None, "weights")

    def test_parts_of_comparisons(self):
        for system in FIVE[::6] + SIX[::3] + [PLANE]:
            looked = comparisons(system)
            for step in (1, 2, 3, 5):
                for start in range(step):
                    self.check_paper(system, looked[start::step][:210], "weights")

    def test_bars(self):
        looked = comparisons(EIGHT)
        only = tuple(sorted(BAR))
        self.assertEqual(self.check_paper(EIGHT, only, "bar")[1], BAR)
        for at in range(len(only)):
            self.check_paper(EIGHT, only[:at] + only[at + 1:], "weights")
        for step in range(1, 12):
            self.check_paper(EIGHT, tuple(sorted(set(only) | set(looked[step::step + 2][:204]))), "bar")
        words = {self.check_paper(EIGHT, looked[start::7][:210])[0] for start in range(7)}
        words |= {self.check_paper(BENT, comparisons(BENT)[start::5][:210])[0] for start in range(5)}
        self.assertIn("bar", words)

    def test_no_comparisons(self):
        for system in [one for one in SOME if comparisons(one) == ()] + [System.of_table(curve(9, 1)), ~System.free(9)]:
            zeros = {base: 0 for base in system.bases}
            for only in (None, ()):
                self.assertIs(is_weights(system, zeros, only=only), True)
                self.check_paper(system, only, "weights")
            self.assertIs(is_bar(system, {}), False)
        self.check_paper(EIGHT, (), "weights")

    def test_only_one_kind(self):
        """Comparisons of the kind "equal" alone are always kept, so are few of the kind "less"."""
        for system in (EIGHT, BENT, PLANE):
            looked = comparisons(system)
            self.check_paper(system, tuple(one for one in looked if one[0] == "equal")[:210], "weights")
            self.check_paper(system, tuple(one for one in looked if one[0] == "less")[:2], "weights")

    def test_both_never_stand(self):
        """[15.5]: where a bar stands, no small weights do, and the other way round."""
        only = tuple(sorted(BAR))
        bases = sorted({base for one in only for pair in one[1:] for base in pair})
        for at in range(200):
            weights = {base: 0 for base in EIGHT.bases}
            weights.update({base: (place * place * 7 + at * (place + 3)) % 11 - 5 for place, base in enumerate(bases)})
            self.assertIs(is_weights(EIGHT, weights, only=only), False)

    def test_limit(self):
        seven, eight_things = System.of_table(curve(7, 3)), System.of_table(curve(8, 4))
        self.assertEqual(len(comparisons(seven)), 210)
        self.check_paper(seven, None, "weights")
        looked = comparisons(eight_things)
        self.check_paper(eight_things, looked[100:310], "weights")
        for only in (None, looked, looked[:211]):
            self.assertEqual(told_by(error_of(lambda: weights_or_bar(eight_things, only=only))), (TooMany, 210))
        self.assertEqual(error_of(lambda: weights_or_bar(eight_things, only=looked[:300][::-1])).__class__, InvalidOperation)

    def test_any_number_is_judged(self):
        system = System.of_table(curve(8, 3))
        looked = comparisons(system)
        self.assertGreater(len(looked), 210)
        # The logarithms of the values to the base 2, as a power of 2 tells them.
        great = {lot: (value(curve(8, 3), lot) ** 400).bit_length() for lot in lots(8, 3)}
        self.assertEqual(is_weights(system, great), all(is_kept(great, one) for one in looked))
        self.assertIs(is_weights(system, great, only=looked[:250]), all(is_kept(great, one) for one in looked[:250]))
        self.assertIs(is_weights(system, {base: 0 for base in system.bases}), False)
        self.assertIs(is_bar(EIGHT, BAR), True)

    def test_equal_calls(self):
        for system in SIX[::3] + [PLANE]:
            self.assertEqual(weights_or_bar(system), weights_or_bar(system))
        paper = weights_or_bar(LINE)
        paper[1].clear()
        self.check_paper(LINE, None, "weights")


class JudgedTest(unittest.TestCase):
    def test_weights(self):
        for system in (LINE, MIXED, System.free(0), FIVE[40]):
            looked = comparisons(system)
            check_judged(self, lambda one: is_weights(system, one), [weights_or_bar(system)[1]],
                         lambda one: are_weights(system, one, looked))
            check_judged(self, lambda one: is_weights(system, one, only=looked[:1]), [weights_or_bar(system)[1]],
                         lambda one: are_weights(system, one, looked[:1]))

    def test_weights_of_others_than_bases(self):
        for system in (LINE, MIXED, PLANE):
            right = weights_or_bar(system)[1]
            for key in ((), (0,), (0, 1, 2), (0, 1, 2, 3), (2, 3, 4), (0, 3), "a", 0, None):
                if key not in right:
                    self.assertIs(is_weights(system, {**right, key: 0}), False)
                    self.assertIs(is_weights(system, {**dict(list(right.items())[1:]), key: 0}), False)

    def test_all_small_weights(self):
        looked = comparisons(LINE)
        for weights in product((-1, 0, 1), repeat=6):
            told = dict(zip(LINE.bases, weights))
            self.assertIs(is_weights(LINE, told), all(is_kept(told, one) for one in looked))
            for one in looked:
                self.assertIs(is_weights(LINE, told, only=(one,)), is_kept(told, one))

    def test_long_integers(self):
        most = 10 ** 60 - 1
        told = {base: most if base == (1, 3) else -most for base in LINE.bases}
        self.assertIs(is_weights(LINE, told), True)
        for long in (10 ** 60, 10 ** 99):
            self.assertIs(is_weights(LINE, {**told, (1, 3): long}), False)
            self.assertIs(is_weights(LINE, {**told, (0, 1): -long}), False)
        self.assertIs(is_bar(EIGHT, {key: one * most for key, one in BAR.items()}), True)
        self.assertIs(is_bar(EIGHT, {key: one * 10 ** 60 for key, one in BAR.items()}), False)

    def test_bars(self):
        known = {repr(one) for one in comparisons(EIGHT)}
        check_judged(self, lambda one: is_bar(EIGHT, one), [BAR], lambda one: is_plain_bar(EIGHT, one, known), 3)
        for other in ({key: -one for key, one in BAR.items()}, {key: one for key, one in BAR.items() if key[0] == "equal"},
                      {**BAR, comparisons(EIGHT)[0]: 1}, {**BAR, comparisons(EIGHT)[0]: 0}, {}):
            self.assertIs(is_bar(EIGHT, other), False)
        self.assertIs(is_bar(EIGHT, {key: 3 * one for key, one in BAR.items()}), True)
        self.assertIs(is_bar(EIGHT, dict(reversed(list(BAR.items())))), True)
        for system in (LINE, BENT, EIGHT.renamed((1, 0, 2, 3, 4, 5, 6, 7)), EIGHT.renamed((0, 1, 7, 3, 4, 5, 6, 2)), ~EIGHT):
            self.assertIs(is_bar(system, BAR), is_plain_bar(system, BAR, {repr(one) for one in comparisons(system)}))
        self.assertIs(is_bar(EIGHT.turned_at((0, 7)), BAR), True)

    def test_equal_bars_are_none(self):
        """A row of comparisons that lead back to the first pair is none without a "less"."""
        looked = [one for one in comparisons(BENT) if one[0] == "equal"]
        for one, other in list(zip(looked, looked[1:]))[:40]:
            self.assertIs(is_bar(BENT, {one: 1, other: -1}), False)


class ErrorsTest(unittest.TestCase):
    def test_wrong_arguments(self):
        looked = {repr(one) for one in comparisons(LINE)}

        def is_only(one):
            if one is None:
                return True
            return isinstance(one, tuple) and all(repr(told) in looked for told in one) and list(one) == sorted(set(one))
        is_system = (InvalidSystem, lambda one: isinstance(one, System))
        is_table = (InvalidTable, lambda one: isinstance(one, Table))
        Wrong(is_drawn_by, (LINE, curve(4, 2)), (is_system, is_table)).check(self)
        for call in (comparisons, points_of, lambda system: is_bar(system, None)):
            Wrong(call, (FIVE[0],), (is_system,)).check(self)
        for call in (weights_or_bar, lambda system, **told: is_weights(system, None, **told)):
            Wrong(call, (LINE, comparisons(LINE)), (is_system, (InvalidOperation, is_only)), ("only",)).check(self)

    def test_only(self):
        one, other = comparisons(LINE)
        word, pair, great = one
        wrong = ((other, one), (one, one), [one], (list(one),), (one, None), ((word, pair),), ((word, pair, great, 1),), one,
                 (("equal", pair, great),), ((word, great, pair),), ((word, pair[::-1], great),), ((word, list(pair), great),),
                 ((word, ([0, 1], (2, 3)), great),), ((word, ((False, True), (2, 3)), great),), {one: 1}, "less", 0, False,
                 ((word, ((0, 1), (2, 3), (0, 1)), great),), ((None, pair, great),), (([], pair, great),),
                 (({}, pair, great),), (comparisons(PLANE)[0],), ((word, pair, pair),))
        for only in wrong:
            for call in (lambda: weights_or_bar(LINE, only=only), lambda: is_weights(LINE, None, only=only)):
                self.assertEqual(error_of(call).__class__, InvalidOperation, only)
        for only in ((), (one,), (other,), (one, other), None):
            self.assertEqual(weights_or_bar(LINE, only=only)[0], "weights")

    def test_order_of_errors(self):
        great = System.of_table(curve(8, 4))
        looked = comparisons(great)
        self.assertEqual(error_of(lambda: weights_or_bar(great, only=looked + (None,))).__class__, InvalidOperation)
        self.assertEqual(error_of(lambda: weights_or_bar(None, only=0)).__class__, InvalidSystem)
        self.assertEqual(error_of(lambda: is_drawn_by(LINE, LINE)).__class__, InvalidTable)
        for other in POOL:
            if not isinstance(other, System):
                self.assertEqual(error_of(lambda: is_drawn_by(other, None)).__class__, InvalidSystem)


if __name__ == "__main__":
    unittest.main()
