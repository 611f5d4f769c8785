"""[12], and what [3] says of a sieve made least of a greater graph."""

import unittest
from itertools import product

from frontways.errors import BadKnots, TooMany
from frontways.making import least_sieve, sieve_of
from frontways.sieves import Sieve, has_set, sets_of
from sample_sieves import HUGE, SAMPLES, all_sets_below, every_list_below, held_to_words, refused, sets_by_words, told

# (n, rows): none, rows alike, a with of 0, rows that nothing leads to, all of these together, ties left out.
GREATER = [
    (0, []),
    (5, []),
    (1, [(0, 0, 0)]),
    (1, [(0, 1, 0), (0, 0, 1), (0, 1, 1), (0, 0, 1), (0, 1, 1)]),
    (2, [(1, 0, 1), (1, 0, 1), (0, 2, 3), (0, 3, 2)]),
    (3, [(2, 0, 0), (1, 2, 2), (0, 3, 1), (0, 1, 3), (0, 2, 3)]),
    (3, [(2, 1, 0), (2, 0, 1), (1, 2, 3), (1, 3, 2), (0, 4, 5), (0, 5, 4)]),
    (4, [(3, 1, 1), (3, 1, 1), (2, 2, 0), (2, 3, 3), (2, 2, 3), (1, 4, 6), (1, 5, 4), (0, 7, 8), (0, 8, 0)]),
    (4, [(0, 1, 1), (3, 0, 1), (1, 3, 3), (2, 3, 1), (0, 4, 5), (1, 5, 5), (0, 7, 4)]),
    (12, [(11, 0, 1), (11, 0, 1), (5, 2, 3), (5, 3, 2), (4, 5, 0), (0, 4, 6), (0, 6, 6), (3, 1, 1)]),
]


def all_sets_graph(n):
    """The rows of the sieve of all sets of ties below n."""
    return [(n - 1 - k, k + 1, k + 1) for k in range(n)]


def full_tree(n, sets):
    """A graph of the sets that has a knot of its own for each choice of ties, least tie on top; its rows and top."""
    rows = []

    def knot(tie, chosen):
        if tie == n:
            return 1 if chosen in sets else 0
        without = knot(tie + 1, chosen)
        having = knot(tie + 1, chosen + (tie,))
        rows.append((tie, without, having))
        return len(rows) + 1

    top = knot(0, ())
    return rows, top


def rows_stand(n, rows, top):
    """Whether [12] lets the rows and the top stand."""
    for number, row in enumerate(rows, start=2):
        if row[0] not in range(n):
            return False
        for lower in row[1:]:
            if lower not in range(number) or lower > 1 and not rows[lower - 2][0] > row[0]:
                return False
    return top in range(len(rows) + 2)


class Least(unittest.TestCase):
    def made(self, n, rows, top):
        """The least sieve, held against the one made of the list of the top's sets."""
        sets = sorted(sets_by_words(rows)[top])
        sieve = least_sieve(n, rows, top)
        self.assertIs(Sieve, type(sieve))
        self.assertEqual(told(sieve_of(n, sets)), told(sieve), (n, rows, top))
        held_to_words(self, n, sets, sieve)
        return sieve

    def test_each_top(self):
        for n, rows in GREATER:
            for top in range(len(rows) + 2):
                self.made(n, rows, top)

    def test_a_top_of_nought_and_of_one(self):
        for n, rows in GREATER:
            self.assertEqual((n, [], 0), told(least_sieve(n, rows, 0)))
            self.assertEqual((n, [], 1), told(least_sieve(n, rows, 1)))

    def test_some_by_hand(self):
        self.assertEqual((1, [], 0), told(least_sieve(1, [(0, 0, 0)], 2)))
        self.assertEqual((1, [], 1), told(least_sieve(1, [(0, 1, 0)], 2)))
        self.assertEqual((2, [(1, 0, 1), (0, 2, 2)], 3), told(least_sieve(2, [(1, 0, 1), (1, 0, 1), (0, 2, 3)], 4)))
        self.assertEqual((3, [(0, 0, 1)], 2), told(least_sieve(3, [(2, 0, 0), (1, 2, 2), (0, 3, 1)], 4)))
        self.assertEqual((3, [(2, 0, 1)], 2), told(least_sieve(3, [(0, 1, 1), (1, 0, 1), (2, 0, 1)], 4)))
        # Needless rows on the way to what is kept.
        self.assertEqual((3, [(2, 1, 1)], 2), told(least_sieve(3, [(2, 1, 1), (1, 2, 0), (0, 3, 0)], 4)))

    def test_rows_in_another_order(self):
        rows = [(0, 1, 1), (2, 1, 1), (1, 0, 3), (2, 0, 1), (1, 5, 3), (0, 6, 4)]
        self.assertEqual(
            (3, [(2, 0, 1), (2, 1, 1), (1, 0, 3), (1, 2, 3), (0, 5, 4)], 6), told(self.made(3, rows, 7))
        )

    def test_of_a_sieves_own_knots(self):
        for n, sets in SAMPLES + [(3, sets) for sets in every_list_below(3)]:
            sieve = sieve_of(n, sets)
            self.assertEqual(told(sieve), told(least_sieve(n, sieve.knots(), sieve.top())))

    def test_each_knot_of_a_sieve_as_the_top(self):
        for n, sets in SAMPLES:
            rows = sieve_of(n, sets).knots()
            for top in range(len(rows) + 2):
                self.made(n, rows, top)

    def test_of_a_full_tree(self):
        for sets in every_list_below(3):
            rows, top = full_tree(3, sets)
            self.assertEqual(told(sieve_of(3, sets)), told(least_sieve(3, rows, top)))
        for n, sets in SAMPLES:
            if n < 8:
                rows, top = full_tree(n, sets)
                self.assertEqual(told(sieve_of(n, sets)), told(least_sieve(n, rows, top)))

    def test_rows_twice_over(self):
        for n, sets in SAMPLES:
            rows = sieve_of(n, sets).knots()
            doubled = []
            for tie, without, having in rows:
                # Knot k stands at 2 k - 2 and at 2 k - 1; each leads to the one of both, or to the other.
                first = [lower if lower < 2 else 2 * lower - 2 for lower in (without, having)]
                second = [lower if lower < 2 else 2 * lower - 1 for lower in (without, having)]
                doubled += [(tie, first[0], second[1]), (tie, second[0], first[1])]
            top = sieve_of(n, sets).top()
            for place in (0, 1):
                great = top if top < 2 else 2 * top - 2 + place
                self.assertEqual(told(sieve_of(n, sets)), told(least_sieve(n, doubled, great)))

    def test_all_sets_of_twelve_ties(self):
        rows = all_sets_graph(12)
        sieve = least_sieve(12, rows, 13)
        self.assertEqual((12, rows, 13), told(sieve))
        found = sets_of(sieve)
        self.assertEqual(4096, len(found))
        self.assertEqual(set(all_sets_below(12)), set(found))
        self.assertEqual(sorted(found, key=lambda some: [k in some for k in range(12)]), found)
        self.assertTrue(has_set(sieve, tuple(range(12))))

    def test_lists_as_rows(self):
        for n, rows in GREATER:
            for top in range(len(rows) + 2):
                expected = told(least_sieve(n, rows, top))
                self.assertEqual(expected, told(least_sieve(n, [list(row) for row in rows], top)))
                self.assertEqual(expected, told(least_sieve(n, tuple(rows), top)))
                self.assertEqual(expected, told(least_sieve(n, tuple(list(row) for row in rows), top)))
                kinds = [type(row) for row in least_sieve(n, [list(row) for row in rows], top).knots()]
                self.assertEqual([tuple] * len(kinds), kinds)

    def test_every_two_rows_below_two(self):
        firsts = list(product(range(-1, 3), range(-1, 3), range(-1, 3)))
        seconds = list(product(range(-1, 3), range(-1, 4), range(-1, 4)))
        stood = 0
        for first, second in product(firsts, seconds):
            for top in range(-1, 5):
                rows = [first, second]
                if rows_stand(2, rows, top):
                    stood += 1
                    sets = sorted(sets_by_words(rows)[top])
                    self.assertEqual(told(sieve_of(2, sets)), told(least_sieve(2, rows, top)), (rows, top))
                else:
                    with self.assertRaises(BadKnots, msg=(rows, top)):
                        least_sieve(2, rows, top)
        # Each of both ties beneath 0 and 1; the second also a 0 above a 1.
        self.assertEqual(4 * (8 * 8 + 4 * 5), stood)


class Refusals(unittest.TestCase):
    ROWS = [(3, 0, 1), (2, 2, 1), (1, 3, 2), (2, 0, 2), (0, 4, 5)]

    def bad(self, rows, top=0, n=4):
        refused(self, BadKnots, least_sieve, n, rows, top)
        refused(self, BadKnots, least_sieve, n, [list(row) for row in rows], top)

    def changed(self, place, part, value):
        """The rows with one part of one row changed."""
        rows = [list(row) for row in self.ROWS]
        rows[place][part] = value
        return [tuple(row) for row in rows]

    def test_the_rows_themselves_stand(self):
        for top in range(7):
            self.assertEqual(4, least_sieve(4, self.ROWS, top).many())

    def test_too_many(self):
        for n in (-1, 13, -2, 14, HUGE, -HUGE):
            refused(self, TooMany, least_sieve, n, [], 0)
            refused(self, TooMany, least_sieve, n, [(0, 1, 1)], 2)

    def test_too_many_ahead_of_bad_knots(self):
        for n in (-1, 13, HUGE):
            for rows, top in (([(-1, 0, 1)], 2), ([(0, 2, 1)], 2), ([(0, 0, -1)], 0), ([], 2), ([], -1), ([], HUGE)):
                refused(self, TooMany, least_sieve, n, rows, top)

    def test_no_ties_and_twelve(self):
        self.assertEqual((0, [], 1), told(least_sieve(0, [], 1)))
        self.assertEqual((12, [(11, 0, 1)], 2), told(least_sieve(12, [(11, 0, 1)], 2)))
        self.bad([(0, 0, 1)], 2, n=0)
        self.bad([(12, 0, 1)], 2, n=12)

    def test_ties(self):
        for place in range(len(self.ROWS)):
            for tie in (-1, -2, 4, 5, 12, HUGE, -HUGE):
                self.bad(self.changed(place, 0, tie))
                self.bad(self.changed(place, 0, tie), place + 2)

    def test_knots_below_nought_or_not_lesser(self):
        for place in range(len(self.ROWS)):
            for lower in (-1, -2, -HUGE, place + 2, place + 3, 7, HUGE):
                for part in (1, 2):
                    self.bad(self.changed(place, part, lower))
                    self.bad(self.changed(place, part, lower), place + 2)

    def test_knots_whose_tie_is_not_greater(self):
        for part in (1, 2):
            self.bad(self.changed(3, part, 3))
            self.bad(self.changed(3, part, 4))
        self.bad([(1, 0, 1), (1, 2, 1)])
        self.bad([(1, 0, 1), (1, 1, 2)])
        self.bad([(0, 0, 1), (3, 2, 2)])
        self.bad([(0, 0, 1), (0, 0, 2)], 3)

    def test_rows_that_nothing_leads_to(self):
        for row in ((-1, 0, 1), (4, 0, 1), (0, -1, 1), (0, 0, 7), (0, 0, 8), (3, 1, 2)):
            self.bad(self.ROWS + [row], 6)
            self.bad(self.ROWS + [row], 0)

    def test_tops(self):
        for top in (-1, -2, 7, 8, HUGE, -HUGE):
            self.bad(self.ROWS, top)
        for top in (-1, 2, 3, HUGE):
            self.bad([], top)
            self.bad([], top, n=0)
        self.assertEqual((4, [], 1), told(least_sieve(4, [], 1)))


if __name__ == "__main__":
    unittest.main()
