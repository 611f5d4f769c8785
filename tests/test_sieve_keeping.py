"""[2] for sieves: lists and tuples alike, nothing handed in changed or kept, each told list the asker's own."""

import unittest

from frontways.errors import FrontError
from frontways.making import least_sieve, sieve_of
from frontways.parting import parted_by
from frontways.rules import Rule
from frontways.sieves import has_set, sets_of
from frontways.webs import Web
from sample_sieves import SAMPLES, all_sets_below

SETS = [(0, 2), (0,), (1, 2), (3,), (1, 2, 3), ()]
ROWS = [(3, 0, 1), (3, 0, 1), (2, 2, 0), (2, 3, 1), (1, 4, 5), (0, 6, 5), (0, 1, 1)]


def all_told(sieve):
    """All that a sieve of few ties is asked in these tests, as one value that no list is shared with."""
    numbers = range(len(sieve.knots()) + 2)
    return repr([
        sieve.many(),
        sieve.knots(),
        sieve.top(),
        sets_of(sieve),
        [has_set(sieve, some) for some in all_sets_below(4)],
        [parted_by(sieve, first, second) for first in numbers for second in numbers],
    ])


class ListsAndTuples(unittest.TestCase):
    def test_sets(self):
        for n, sets in SAMPLES + [(4, SETS)]:
            expected = all_told(sieve_of(n, list(sets)))
            self.assertEqual(expected, all_told(sieve_of(n, tuple(sets))))
            self.assertEqual(expected, all_told(sieve_of(n, [list(some) for some in sets])))
            self.assertEqual(expected, all_told(sieve_of(n, tuple(list(some) for some in sets))))
            self.assertEqual(expected, all_told(sieve_of(n, list(sets) + [list(some) for some in sets])))

    def test_rows(self):
        for top in range(len(ROWS) + 2):
            expected = all_told(least_sieve(4, ROWS, top))
            self.assertEqual(expected, all_told(least_sieve(4, tuple(ROWS), top)))
            self.assertEqual(expected, all_told(least_sieve(4, [list(row) for row in ROWS], top)))
            self.assertEqual(expected, all_told(least_sieve(4, tuple(list(row) for row in ROWS), top)))

    def test_asked_sets(self):
        sieve = sieve_of(4, SETS)
        for some in all_sets_below(5) + [(1, 0), (2, 2)]:
            self.assertEqual(has_set(sieve, some), has_set(sieve, list(some)))


class HandedIn(unittest.TestCase):
    def test_sets_stay_as_they_were(self):
        sets = [[2, 3], [0], [0], [], [1, 2]]
        all_told(sieve_of(4, sets))
        self.assertEqual([[2, 3], [0], [0], [], [1, 2]], sets)

    def test_refused_sets_stay_as_they_were(self):
        for sets in ([[2, 0], [0]], [[0], [1, 1]], [[0], [9]], [[3], [-1]]):
            before = repr(sets)
            self.assertRaises(FrontError, sieve_of, 4, sets)
            self.assertRaises(FrontError, sieve_of, 13, sets)
            self.assertEqual(before, repr(sets))

    def test_rows_stay_as_they_were(self):
        rows = [list(row) for row in ROWS]
        for top in range(-1, len(ROWS) + 3):
            try:
                all_told(least_sieve(4, rows, top))
            except FrontError:
                pass
            self.assertEqual([list(row) for row in ROWS], rows)

    def test_asked_sets_stay_as_they_were(self):
        sieve = sieve_of(4, SETS)
        for some in ([0, 2], [2, 0], [], [1, 1], [7], [-1, 3]):
            before = list(some)
            has_set(sieve, some)
            self.assertEqual(before, some)

    def test_a_later_change_of_the_sets_is_not_seen(self):
        sets = [list(some) for some in SETS]
        sieve = sieve_of(4, sets)
        before = all_told(sieve)
        sets[0][0] = 1
        sets[4].clear()
        self.assertEqual(before, all_told(sieve))
        sets.append([1, 3])
        sets.pop(0)
        self.assertEqual(before, all_told(sieve))

    def test_a_later_change_of_the_rows_is_not_seen(self):
        for start in (sieve_of(4, SETS).knots(), ROWS):
            rows = [list(row) for row in start]
            sieve = least_sieve(4, rows, len(rows))
            before = all_told(sieve)
            for row in rows:
                row[1] = 0
                row.reverse()
            self.assertEqual(before, all_told(sieve))
            rows.clear()
            self.assertEqual(before, all_told(sieve))


class Askers(unittest.TestCase):
    """Each told list is altered; the sieve then still tells all that it told."""

    def asked_again(self, ask):
        for n, sets in [(4, SETS), (0, []), (2, [()]), (4, all_sets_below(4))]:
            sieve = sieve_of(n, sets)
            before = all_told(sieve)
            first = ask(sieve)
            kept = repr(first)
            first.reverse()
            first.append(99)
            self.assertEqual(kept, repr(ask(sieve)))
            self.assertEqual(before, all_told(sieve))
            self.assertIsNot(ask(sieve), ask(sieve))
            self.assertEqual(before, all_told(sieve_of(n, sets)))

    def test_knots(self):
        self.asked_again(lambda sieve: sieve.knots())

    def test_sets(self):
        self.asked_again(lambda sieve: sets_of(sieve))

    def test_sieves_share_nothing(self):
        sieve = sieve_of(4, SETS)
        before = all_told(sieve)
        handed = sieve.knots()
        same = least_sieve(4, handed, sieve.top())
        handed.clear()
        same.knots().clear()
        sets_of(same).clear()
        self.assertEqual(before, all_told(sieve))
        self.assertEqual(before, all_told(same))

    def test_the_same_after_others_were_asked(self):
        sieve = sieve_of(4, SETS)
        before = all_told(sieve)
        all_told(sieve_of(4, SETS[::2]))
        all_told(least_sieve(4, ROWS, 7))
        self.assertRaises(FrontError, sieve_of, 4, [(4,)])
        self.assertRaises(FrontError, least_sieve, 4, ROWS, 99)
        self.assertRaises(FrontError, parted_by, sieve, 0, 99)
        self.assertRaises(FrontError, Rule().fits, Web(2, [(0, 1)]), (0,))
        self.assertEqual(before, all_told(sieve))
        self.assertEqual(before, all_told(sieve_of(4, SETS)))


if __name__ == "__main__":
    unittest.main()
