"""[15]: ways between two points, rings, and rings that come to every point."""

import unittest

from frontways.errors import BadRule
from frontways.growing import grown
from frontways.sieves import sets_of
from frontways.ways import Rings, Rounds, Ways
from frontways.webs import Web
from sample_rules import RING_WEBS, SMALL_WEBS, TWELVES, WEBS, ends_in, rings_by_walk, rounds_by_walk, ways_by_walk
from sample_sieves import HUGE, all_sets_below, in_order, refused, told
from sample_webs import BIG_SAMPLES, SAMPLES

NO_SETS = []


def fitting(web, rule):
    """The sets that fit, asked one by one, in order; the sieve must have the same."""
    return in_order([some for some in all_sets_below(len(web.ties())) if rule.fits(web, some)])


class Both(unittest.TestCase):
    """Holds what is told by fits and by the grown sieve against the expected sets."""

    def held(self, expected, web, rule):
        self.assertEqual(in_order(expected), fitting(web, rule), (web.size(), web.ties()))
        self.assertEqual(in_order(expected), sets_of(grown(web, rule)), (web.size(), web.ties()))


class SomeWays(Both):
    def test_by_hand(self):
        web = Web(4, [(0, 1), (1, 2), (2, 3), (3, 0), (0, 2)])
        self.held([(0,), (1, 4), (1, 2, 3)], web, Ways(0, 1))
        self.held([(4,), (0, 1), (2, 3)], web, Ways(2, 0))
        self.held([(0, 3), (1, 2), (0, 2, 4), (1, 3, 4)], web, Ways(1, 3))

    def test_one_tie(self):
        self.held([(0,)], Web(2, [(0, 1)]), Ways(0, 1))
        self.held([(1,)], Web(5, [(0, 1), (4, 2), (0, 3)]), Ways(2, 4))

    def test_what_is_no_way(self):
        web = Web(8, [(0, 1), (1, 2), (3, 4), (4, 5), (5, 3), (1, 6), (6, 7), (7, 1)])
        rule = Ways(0, 2)
        self.assertIs(True, rule.fits(web, (0, 1)))
        for some in ((), (0,), (1,), (0, 1, 2), (0, 1, 2, 3, 4), (0, 1, 5, 6, 7), (2, 3, 4), (0, 1, 5), (0, 1, 6)):
            self.assertIs(False, rule.fits(web, some), some)
            self.assertNotIn(some, sets_of(grown(web, rule)))

    def test_through_an_end_or_back_to_it(self):
        web = Web(4, [(0, 1), (1, 2), (0, 2), (2, 3)])
        self.held([(0,), (1, 2)], web, Ways(0, 1))
        self.held([(2, 3), (0, 1, 3)], web, Ways(0, 3))
        self.held([(3,)], web, Ways(2, 3))

    def test_against_walks(self):
        for points, ties in SMALL_WEBS + WEBS:
            web = Web(points, ties)
            for a, b in ends_in(points):
                self.held(ways_by_walk(ties, a, b), web, Ways(a, b))

    def test_the_same_from_the_other_point(self):
        for points, ties in SMALL_WEBS[::2] + WEBS:
            web = Web(points, ties)
            for a, b in ends_in(points):
                self.assertEqual(told(grown(web, Ways(a, b))), told(grown(web, Ways(b, a))))

    def test_no_way(self):
        for points, ties, a, b in ((2, [], 0, 1), (10, [], 9, 3), (4, [(0, 1), (2, 3)], 1, 2), (3, [(0, 1)], 2, 0)):
            web = Web(points, ties)
            self.held(NO_SETS, web, Ways(a, b))
            self.assertEqual((len(ties), [], 0), told(grown(web, Ways(a, b))))


class NoWays(unittest.TestCase):
    def held(self, web, a, b):
        rule = Ways(a, b)
        whole = tuple(range(len(web.ties())))
        for some in ((), whole, list(whole), whole[:1]):
            refused(self, BadRule, rule.fits, web, some)
        refused(self, BadRule, grown, web, rule)

    def test_no_point(self):
        for points, ties in SAMPLES + RING_WEBS + BIG_SAMPLES[:2] + TWELVES[:1]:
            web = Web(points, ties)
            for off in (-1, -2, -points, points, points + 1, 11, HUGE, -HUGE):
                self.held(web, off, 0)
                self.held(web, 0, off)
                self.held(web, points - 1, off)
                self.held(web, off, off)
                self.held(web, off, points)

    def test_the_same_point(self):
        for points, ties in SAMPLES + RING_WEBS + BIG_SAMPLES[:2] + TWELVES[:1]:
            for point in range(points):
                self.held(Web(points, ties), point, point)

    def test_made_it_is_in_any_case(self):
        for a, b in ((-1, 0), (3, 3), (HUGE, -HUGE), (10, 11)):
            self.assertIsInstance(Ways(a, b), Ways)

    def test_then_it_goes_with_a_web_that_has_both(self):
        rule = Ways(5, 2)
        small = Web(5, [(0, 2), (2, 4)])
        great = Web(6, [(0, 5), (2, 0), (5, 2)])
        for turn in range(3):
            refused(self, BadRule, rule.fits, small, (0,))
            refused(self, BadRule, grown, small, rule)
            self.assertEqual([(2,), (0, 1)], sets_of(grown(great, rule)))
            self.assertIs(True, rule.fits(great, (2,)))
            self.assertIs(False, rule.fits(great, (0,)))


class SomeRings(Both):
    def test_by_hand(self):
        self.held([(0, 1, 2)], Web(3, [(0, 1), (1, 2), (0, 2)]), Rings())
        web = Web(4, [(0, 1), (1, 2), (2, 3), (3, 0), (0, 2)])
        self.held([(2, 3, 4), (0, 1, 4), (0, 1, 2, 3)], web, Rings())

    def test_none(self):
        for points, ties in ((1, []), (2, []), (2, [(0, 1)]), (3, [(0, 1), (1, 2)]), (10, [(0, k) for k in range(1, 9)])):
            self.held(NO_SETS, Web(points, ties), Rings())
            self.assertEqual((len(ties), [], 0), told(grown(Web(points, ties), Rings())))

    def test_the_set_without_ties_is_none(self):
        for points, ties in SMALL_WEBS + WEBS:
            self.assertIs(False, Rings().fits(Web(points, ties), ()))
            self.assertNotIn((), sets_of(grown(Web(points, ties), Rings())))

    def test_two_rings_are_none(self):
        apart = Web(6, [(0, 1), (3, 4), (1, 2), (4, 5), (2, 0), (5, 3)])
        self.held([(0, 2, 4), (1, 3, 5)], apart, Rings())
        meeting = Web(5, [(0, 1), (1, 2), (2, 0), (2, 3), (3, 4), (4, 2)])
        self.held([(0, 1, 2), (3, 4, 5)], meeting, Rings())

    def test_a_ring_and_more_is_none(self):
        web = Web(6, [(0, 1), (1, 2), (2, 0), (2, 3), (4, 5)])
        self.held([(0, 1, 2)], web, Rings())

    def test_against_walks(self):
        for points, ties in SMALL_WEBS + WEBS:
            self.held(rings_by_walk(points, ties), Web(points, ties), Rings())

    def test_a_tie_taken_out(self):
        for points, ties in SMALL_WEBS + RING_WEBS + BIG_SAMPLES + TWELVES:
            web = Web(points, ties)
            rings = sets_of(grown(web, Rings()))
            for number, tie in enumerate(ties):
                opened = [tuple(k for k in ring if k != number) for ring in rings if number in ring]
                ways = [way for way in sets_of(grown(web, Ways(tie[0], tie[1]))) if number not in way]
                self.assertEqual(ways, opened, (points, ties, tie))


class SomeRounds(Both):
    def test_by_hand(self):
        self.held([(0, 1, 2)], Web(3, [(0, 1), (1, 2), (0, 2)]), Rounds())
        self.held([(0, 1, 2, 3)], Web(4, [(0, 1), (1, 2), (2, 3), (3, 0), (0, 2)]), Rounds())
        full = Web(4, [(0, 1), (0, 2), (0, 3), (1, 2), (1, 3), (2, 3)])
        self.held([(0, 1, 4, 5), (0, 2, 3, 5), (1, 2, 3, 4)], full, Rounds())
        self.held([tuple(range(10))], Web(10, BIG_SAMPLES[1][1]), Rounds())

    def test_none_of_one_or_two_points(self):
        for points, ties in ((1, []), (2, []), (2, [(0, 1)]), (2, [(1, 0)])):
            self.held(NO_SETS, Web(points, ties), Rounds())
            self.assertEqual((len(ties), [], 0), told(grown(Web(points, ties), Rounds())))

    def test_a_point_that_no_ring_comes_to(self):
        self.held(NO_SETS, Web(4, [(0, 1), (1, 2), (0, 2)]), Rounds())
        self.held(NO_SETS, Web(4, [(3, 1), (3, 2), (1, 2)]), Rounds())
        self.held(NO_SETS, Web(4, [(0, 1), (1, 2), (0, 2), (2, 3)]), Rounds())

    def test_two_rings_that_come_to_every_point(self):
        self.held(NO_SETS, Web(6, [(0, 1), (3, 4), (1, 2), (4, 5), (2, 0), (5, 3)]), Rounds())
        self.held(NO_SETS, Web(5, [(0, 1), (1, 2), (2, 0), (2, 3), (3, 4), (4, 2)]), Rounds())

    def test_rings_that_come_to_every_point(self):
        for points, ties in SMALL_WEBS + WEBS:
            web = Web(points, ties)
            self.held(rounds_by_walk(points, ties), web, Rounds())
            rings = sets_of(grown(web, Rings()))
            self.assertEqual([some for some in rings if len(some) == points], sets_of(grown(web, Rounds())))


if __name__ == "__main__":
    unittest.main()
