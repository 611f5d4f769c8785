"""[13], and what [3] says of any two knots of a sieve."""

import unittest

from frontways.errors import NoKnot
from frontways.making import least_sieve, sieve_of
from frontways.parting import parted_by
from sample_sieves import HUGE, SAMPLES, every_list_below, refused


def leads_to_yes(rows, knot, some):
    """Whether a knot has a set: walked along the told knots, from tie to tie."""
    for tie in range(13):
        here = rows[knot - 2] if knot > 1 else None
        if here is not None and here[0] == tie:
            knot = here[2] if tie in some else here[1]
        elif tie in some:
            return False
    return knot == 1


class Parted(unittest.TestCase):
    def held(self, sieve):
        rows = sieve.knots()
        numbers = range(len(rows) + 2)
        for first in numbers:
            self.assertIsNone(parted_by(sieve, first, first))
            for second in numbers:
                if first != second:
                    self.parts(sieve, rows, first, second)

    def parts(self, sieve, rows, first, second):
        found = parted_by(sieve, first, second)
        self.assertEqual((tuple, 2), (type(found), len(found)))
        which, some = found
        self.assertEqual((int, tuple), (type(which), type(some)))
        self.assertIn(which, (0, 1))
        self.assertEqual(sorted(set(some)), list(some))
        self.assertTrue(all(type(tie) is int and 0 <= tie < sieve.many() for tie in some))
        has = [leads_to_yes(rows, knot, some) for knot in (first, second)]
        self.assertEqual([which == 0, which == 1], has, (rows, first, second, found))

    def test_the_walk_itself(self):
        rows = [(2, 1, 1), (1, 2, 2), (0, 3, 2)]
        for some in ((), (2,), (1,), (1, 2), (0,), (0, 2)):
            self.assertTrue(leads_to_yes(rows, 4, some))
        for some in ((0, 1), (0, 1, 2), (3,), (1, 3)):
            self.assertFalse(leads_to_yes(rows, 4, some))

    def test_nought_and_one(self):
        for n, sets in SAMPLES:
            sieve = sieve_of(n, sets)
            self.assertEqual((1, ()), parted_by(sieve, 0, 1))
            self.assertEqual((0, ()), parted_by(sieve, 1, 0))
            self.assertIsNone(parted_by(sieve, 0, 0))
            self.assertIsNone(parted_by(sieve, 1, 1))

    def test_every_two_knots(self):
        for n, sets in SAMPLES:
            self.held(sieve_of(n, sets))

    def test_every_list_below_three(self):
        for sets in every_list_below(3):
            self.held(sieve_of(3, sets))

    def test_some_lists_below_four(self):
        for sets in every_list_below(4)[5::371]:
            self.held(sieve_of(4, sets))

    def test_of_a_greater_graph(self):
        rows = [(3, 1, 1), (3, 1, 1), (2, 2, 0), (2, 3, 3), (2, 2, 3), (1, 4, 6), (1, 5, 4), (0, 7, 8), (0, 8, 0)]
        for top in range(11):
            self.held(least_sieve(4, rows, top))

    def test_the_only_sets_that_can_be_told(self):
        sieve = sieve_of(3, [(0, 1), (0, 2)])
        self.assertEqual([(2, 0, 1), (1, 2, 1), (0, 0, 3)], sieve.knots())
        self.assertEqual((1, (2,)), parted_by(sieve, 0, 2))
        self.assertEqual((0, (2,)), parted_by(sieve, 2, 0))
        self.assertEqual((1, (1,)), parted_by(sieve, 2, 3))
        self.assertEqual((0, (1,)), parted_by(sieve, 3, 2))


class Refusals(unittest.TestCase):
    def test_what_is_no_number_of_a_knot(self):
        for n, sets in SAMPLES:
            sieve = sieve_of(n, sets)
            beyond = len(sieve.knots()) + 2
            for bad in (-1, -2, -HUGE, beyond, beyond + 1, HUGE):
                for good in (0, 1, beyond - 1):
                    refused(self, NoKnot, parted_by, sieve, bad, good)
                    refused(self, NoKnot, parted_by, sieve, good, bad)
                refused(self, NoKnot, parted_by, sieve, bad, bad)
                refused(self, NoKnot, parted_by, sieve, bad, -3)
                refused(self, NoKnot, parted_by, sieve, beyond, bad)

    def test_without_knots_from_two_on(self):
        for sieve in (sieve_of(0, []), sieve_of(12, [()])):
            self.assertEqual((1, ()), parted_by(sieve, 0, 1))
            refused(self, NoKnot, parted_by, sieve, 2, 0)
            refused(self, NoKnot, parted_by, sieve, 1, 2)
            refused(self, NoKnot, parted_by, sieve, 2, 2)


if __name__ == "__main__":
    unittest.main()
