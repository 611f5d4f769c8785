"""[18]: pairs, full pairs and covers."""

import unittest

from frontways.counting import count_of
from frontways.covers import Covers
from frontways.growing import grown
from frontways.pairs import Pairs
from frontways.sieves import sets_of
from frontways.webs import Web
from sample_rules import SMALL_WEBS, TWELVES, WEBS
from sample_sieves import all_sets_below, in_order, told
from sample_webs import BIG_SAMPLES, all_webs_of

RING = [(k, (k + 1) % 10) for k in range(10)]
STAR = [(0, k) for k in range(1, 10)]


def counts_of(points, ties, some):
    """How many ties of the set each point has, added up tie by tie."""
    counts = [0] * points
    for number in some:
        for end in ties[number]:
            counts[end] += 1
    return counts


def with_counts(points, ties, allowed):
    sets = all_sets_below(len(ties))
    return [some for some in sets if all(allowed(count) for count in counts_of(points, ties, some))]


class Both(unittest.TestCase):
    """Holds what is told by fits and by the grown sieve against the expected sets."""

    def held(self, expected, web, rule):
        words = (web.size(), web.ties())
        sets = all_sets_below(len(web.ties()))
        self.assertEqual(in_order(expected), in_order([some for some in sets if rule.fits(web, some)]), words)
        self.assertEqual(in_order(expected), sets_of(grown(web, rule)), words)


class SomePairs(Both):
    def test_by_hand(self):
        row = Web(4, [(0, 1), (1, 2), (2, 3)])
        self.held([(), (0,), (1,), (2,), (0, 2)], row, Pairs())
        ring = Web(3, [(0, 1), (1, 2), (0, 2)])
        self.held([(), (0,), (1,), (2,)], ring, Pairs())

    def test_none_at_all_is_pairs_in_every_web(self):
        for points, ties in SMALL_WEBS + WEBS:
            self.assertIs(True, Pairs().fits(Web(points, ties), ()))
            self.assertIn((), sets_of(grown(Web(points, ties), Pairs())))

    def test_without_ties(self):
        for points in (1, 2, 10):
            self.held([()], Web(points, []), Pairs())
            self.assertEqual((0, [], 1), told(grown(Web(points, []), Pairs())))

    def test_how_many(self):
        self.assertEqual(26, count_of(grown(Web(5, BIG_SAMPLES[0][1]), Pairs())))
        self.assertEqual(123, count_of(grown(Web(10, RING), Pairs())))
        self.assertEqual(10, count_of(grown(Web(10, STAR), Pairs())))
        self.assertEqual(32, count_of(grown(Web(10, [(0, 1), (2, 3), (4, 5), (6, 7), (8, 9)]), Pairs())))

    def test_own_counts(self):
        for points, ties in SMALL_WEBS + WEBS + [(5, ties) for ties in all_webs_of(5)[::11]]:
            self.held(with_counts(points, ties, lambda count: count < 2), Web(points, ties), Pairs())

    def test_full_left_out_is_false(self):
        for points, ties in SMALL_WEBS + WEBS:
            web = Web(points, ties)
            sieve = told(grown(web, Pairs()))
            self.assertEqual(sieve, told(grown(web, Pairs(False))))
            self.assertEqual(sieve, told(grown(web, Pairs(full=False))))
            self.assertEqual(told(grown(web, Pairs(True))), told(grown(web, Pairs(full=True))))
        web = Web(4, [(0, 1), (1, 2), (2, 3)])
        for some in all_sets_below(3):
            self.assertIs(Pairs().fits(web, some), Pairs(full=False).fits(web, some))


class FullPairs(Both):
    def test_by_hand(self):
        self.held([(0, 2)], Web(4, [(0, 1), (1, 2), (2, 3)]), Pairs(full=True))
        self.held([(0, 2), (1, 3)], Web(4, [(0, 1), (1, 2), (2, 3), (0, 3)]), Pairs(full=True))
        self.held([(0,)], Web(2, [(0, 1)]), Pairs(full=True))

    def test_none_of_an_odd_number_of_points(self):
        for points, ties in SMALL_WEBS + WEBS:
            if points % 2:
                self.held([], Web(points, ties), Pairs(full=True))

    def test_how_many(self):
        self.assertEqual(2, count_of(grown(Web(10, RING), Pairs(True))))
        self.assertEqual(9, count_of(grown(Web(8, TWELVES[1][1]), Pairs(True))))
        self.assertEqual(3, count_of(grown(Web(4, [(0, 1), (0, 2), (0, 3), (1, 2), (1, 3), (2, 3)]), Pairs(True))))

    def test_own_counts(self):
        for points, ties in SMALL_WEBS + WEBS + [(5, ties) for ties in all_webs_of(5)[::11]]:
            self.held(with_counts(points, ties, lambda count: count == 1), Web(points, ties), Pairs(full=True))

    def test_just_the_pairs_that_are_covers(self):
        for points, ties in SMALL_WEBS + WEBS:
            web = Web(points, ties)
            covers = sets_of(grown(web, Covers()))
            expected = [some for some in sets_of(grown(web, Pairs())) if some in covers]
            self.assertEqual(expected, sets_of(grown(web, Pairs(full=True))))
            for some in all_sets_below(len(ties))[:200]:
                both = Pairs().fits(web, some) and Covers().fits(web, some)
                self.assertIs(both, Pairs(full=True).fits(web, some))


class SomeCovers(Both):
    def test_by_hand(self):
        self.held([(0, 2), (0, 1, 2)], Web(4, [(0, 1), (1, 2), (2, 3)]), Covers())
        self.held([(0, 1), (0, 2), (1, 2), (0, 1, 2)], Web(3, [(0, 1), (1, 2), (0, 2)]), Covers())
        self.held([tuple(range(9))], Web(10, STAR), Covers())
        self.held([(0,)], Web(2, [(0, 1)]), Covers())

    def test_how_many(self):
        self.assertEqual(123, count_of(grown(Web(10, RING), Covers())))
        self.assertEqual(1, count_of(grown(Web(10, [(9, 0), (8, 1), (7, 2), (6, 3), (5, 4)]), Covers())))

    def test_own_counts(self):
        for points, ties in SMALL_WEBS + WEBS + [(5, ties) for ties in all_webs_of(5)[::11]]:
            self.held(with_counts(points, ties, lambda count: count > 0), Web(points, ties), Covers())


class PointsWithoutTies(Both):
    def test_no_full_pairs_and_no_covers(self):
        seen = 0
        for points, ties in SMALL_WEBS + WEBS + [(1, []), (10, []), (3, [(0, 1)]), (3, [(1, 2)]), (3, [(0, 2)])]:
            if len({end for tie in ties for end in tie}) < points:
                seen += 1
                for rule in (Pairs(full=True), Covers()):
                    self.held([], Web(points, ties), rule)
                    self.assertEqual((len(ties), [], 0), told(grown(Web(points, ties), rule)))
                    self.assertIs(False, rule.fits(Web(points, ties), ()))
        self.assertGreater(seen, 20)


if __name__ == "__main__":
    unittest.main()
