"""[17]: crowds of low to high points, each with all ties between its points."""

import unittest

from frontways.counting import count_of
from frontways.crowds import Crowds
from frontways.errors import BadRule
from frontways.growing import grown
from frontways.rules import Rule
from frontways.sieves import sets_of
from frontways.webs import Web
from sample_rules import RING_WEBS, SMALL_WEBS, TWELVES, WEBS
from sample_sieves import HUGE, all_sets_below, in_order, refused, told
from sample_webs import BIG_SAMPLES, SAMPLES, all_webs_of, hang_together

PATH = [(k, k + 1) for k in range(9)]
RING = [(k, (k + 1) % 10) for k in range(10)]


def together(points, ties, some):
    """[5], by walks: for each point those that hang together with it, itself among them."""
    return [[other for other in range(points) if hang_together(ties, some, point, other)] for point in range(points)]


def whole_ones(points, ties):
    """The sets that have each tie whose points hang together by them, each with its parts' sizes."""
    found = []
    for some in all_sets_below(len(ties)):
        parts = together(points, ties, some)
        if all(number in some for number, (a, b) in enumerate(ties) if b in parts[a]):
            found.append((some, {len(part) for part in parts}))
    return found


def with_sizes(whole, low, high):
    return [some for some, sizes in whole if low <= min(sizes) and max(sizes) <= high]


class Both(unittest.TestCase):
    """Holds what is told by fits and by the grown sieve against the expected sets."""

    def held(self, expected, web, rule):
        words = (web.size(), web.ties())
        sets = all_sets_below(len(web.ties()))
        self.assertEqual(in_order(expected), in_order([some for some in sets if rule.fits(web, some)]), words)
        self.assertEqual(in_order(expected), sets_of(grown(web, rule)), words)


class SomeCrowds(Both):
    def test_by_hand(self):
        ring = Web(3, [(0, 1), (1, 2), (0, 2)])
        self.held([(), (0,), (1,), (2,), (0, 1, 2)], ring, Crowds(1, 3))
        self.held([(), (0,), (1,), (2,)], ring, Crowds(1, 2))
        self.held([()], ring, Crowds(1, 1))
        self.held([], ring, Crowds(2, 2))
        self.held([(0, 1, 2)], ring, Crowds(2, 3))
        square = Web(4, [(0, 1), (1, 2), (2, 3), (0, 3)])
        self.held([(0, 2), (1, 3)], square, Crowds(2, 2))
        self.held([(0, 2), (1, 3), (0, 1, 2, 3)], square, Crowds(2, 4))
        self.held([(0, 1, 2, 3)], square, Crowds(3, 4))
        self.held([], square, Crowds(3, 3))

    def test_a_tie_left_out_ahead_of_those_around_it(self):
        # Whatever the order: the three ties of a ring are all in it, or two of its points in unlike parts.
        for ties in ([(0, 2), (0, 1), (1, 2)], [(0, 1), (0, 2), (1, 2)], [(0, 1), (1, 2), (0, 2)]):
            web = Web(3, ties)
            for some in ((0, 1), (0, 2), (1, 2)):
                self.assertIs(False, Crowds(1, 3).fits(web, some))
                self.assertNotIn(some, sets_of(grown(web, Crowds(1, 3))))

    def test_a_tie_left_out_between_parts_that_become_one(self):
        # The tie 0 is left out; the parts of both its points are tied to one another by others only at the end.
        web = Web(6, [(0, 3), (0, 1), (3, 4), (1, 2), (4, 5), (2, 5)])
        self.assertIs(False, Crowds(1, 6).fits(web, (1, 2, 3, 4, 5)))
        self.assertNotIn((1, 2, 3, 4, 5), sets_of(grown(web, Crowds(1, 6))))
        self.held(with_sizes(whole_ones(6, web.ties()), 1, 6), web, Crowds(1, 6))

    def test_single_points(self):
        web = Web(4, [(0, 1), (1, 2)])
        self.held([(), (0,), (1,), (0, 1)], web, Crowds(1, 3))
        self.held([(), (0,), (1,)], web, Crowds(1, 2))
        # Point 3 is a part by itself, whatever the set.
        self.held([], web, Crowds(2, 4))

    def test_without_ties(self):
        for points in (1, 2, 10):
            for high in (1, 5, 10, 11, HUGE):
                self.held([()], Web(points, []), Crowds(1, high))
                self.assertEqual((0, [], 1), told(grown(Web(points, []), Crowds(1, high))))
                self.held([], Web(points, []), Crowds(2, high + 1))
                self.assertEqual((0, [], 0), told(grown(Web(points, []), Crowds(2, high + 1))))

    def test_one_point_each(self):
        for points, ties in SAMPLES + TWELVES:
            self.assertEqual([()], sets_of(grown(Web(points, ties), Crowds(1, 1))))
            self.assertIs(True, Crowds(1, 1).fits(Web(points, ties), ()))

    def test_all_in_one(self):
        for points, ties in WEBS:
            web = Web(points, ties)
            every = tuple(range(len(ties)))
            one = together(points, ties, every)[0] == list(range(points))
            self.assertEqual([every] if one else [], sets_of(grown(web, Crowds(points, points))))
            self.assertIs(one, Crowds(points, HUGE).fits(web, every))

    def test_high_beyond_the_points(self):
        for points, ties in SAMPLES + RING_WEBS + TWELVES:
            web = Web(points, ties)
            expected = grown(web, Crowds(1, points))
            for high in (points + 1, 11, 100, HUGE):
                self.assertEqual(told(expected), told(grown(web, Crowds(1, high))))

    def test_low_beyond_the_points(self):
        for points, ties in SAMPLES + RING_WEBS + TWELVES:
            web = Web(points, ties)
            for low in (points + 1, points + 2, 11, HUGE):
                for high in (low, HUGE):
                    rule = Crowds(low, high)
                    self.assertEqual((len(ties), [], 0), told(grown(web, rule)))
                    for some in ((), tuple(range(len(ties)))):
                        self.assertIs(False, rule.fits(web, some))

    def test_how_many(self):
        # Between five points with all ties every sharing of the points is one: 52 in all.
        five = Web(5, BIG_SAMPLES[0][1])
        expected = {(1, 5): 52, (1, 2): 26, (2, 3): 10, (2, 5): 11, (1, 4): 51, (5, 5): 1, (3, 4): 0}
        for (low, high), many in expected.items():
            self.assertEqual(many, count_of(grown(five, Crowds(low, high))), (low, high))
        # On a row of ten points each tie may be cut or not; parts of two or more points, as sums of ten: 34.
        self.assertEqual(512, count_of(grown(Web(10, PATH), Crowds(1, 10))))
        self.assertEqual(34, count_of(grown(Web(10, PATH), Crowds(2, 10))))
        self.assertEqual(1, count_of(grown(Web(10, PATH), Crowds(5, 5))))
        # Round a ring never just one tie is cut.
        self.assertEqual(1024 - 10, count_of(grown(Web(10, RING), Crowds(1, 10))))

    def test_own_look_at_what_hangs_together(self):
        for points, ties in SMALL_WEBS + SAMPLES + RING_WEBS + BIG_SAMPLES:
            whole = whole_ones(points, ties)
            for low in range(1, points + 2):
                for high in range(low, points + 2):
                    expected = in_order(with_sizes(whole, low, high))
                    self.assertEqual(expected, sets_of(grown(Web(points, ties), Crowds(low, high))), (ties, low, high))

    def test_every_set_of_five_points(self):
        for ties in all_webs_of(5)[::17]:
            whole = whole_ones(5, ties)
            for low, high in ((1, 5), (1, 3), (2, 3), (2, 5), (3, 3)):
                self.held(with_sizes(whole, low, high), Web(5, ties), Crowds(low, high))

    def test_every_set_of_twelve_ties(self):
        for points, ties in TWELVES:
            whole = whole_ones(points, ties)
            for low, high in ((1, points), (2, 4), (3, 3), (1, points // 2)):
                self.held(with_sizes(whole, low, high), Web(points, ties), Crowds(low, high))


class Refused(unittest.TestCase):
    def test_when_made(self):
        for low, high in ((0, 0), (0, 1), (0, 5), (-1, 3), (-3, -1), (-HUGE, 4), (-HUGE, -HUGE), (-HUGE, HUGE), (0, HUGE),
                          (2, 1), (5, 4), (10, 1), (1, 0), (1, -1), (1, -HUGE), (HUGE, HUGE - 1), (HUGE, 1), (HUGE, -HUGE)):
            refused(self, BadRule, Crowds, low, high)

    def test_at_the_edges_not(self):
        for low, high in ((1, 1), (1, 2), (2, 2), (10, 10), (11, 12), (1, HUGE), (HUGE, HUGE), (HUGE - 1, HUGE)):
            self.assertIsInstance(Crowds(low, high), Rule)

    def test_it_goes_with_every_web(self):
        for low, high in ((1, 1), (1, HUGE), (3, 4), (11, 11), (HUGE, HUGE)):
            for points, ties in SMALL_WEBS + WEBS:
                self.assertEqual(len(ties), grown(Web(points, ties), Crowds(low, high)).many())
                self.assertIn(Crowds(low, high).fits(Web(points, ties), ()), (True, False))


if __name__ == "__main__":
    unittest.main()
