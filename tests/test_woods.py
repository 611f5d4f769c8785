"""[16]: woods, in which no ring lies, and trees, woods by which all points hang together."""

import unittest

from frontways.growing import grown
from frontways.sieves import sets_of
from frontways.webs import Web
from frontways.woods import Trees, Woods
from sample_rules import SMALL_WEBS, TWELVES, WEBS, all_hang_together, has_ring, rings_by_walk
from sample_sieves import all_sets_below, in_order, told
from sample_webs import BIG_SAMPLES


class Both(unittest.TestCase):
    """Holds what is told by fits and by the grown sieve against the expected sets."""

    def held(self, expected, web, rule):
        words = (web.size(), web.ties())
        sets = all_sets_below(len(web.ties()))
        self.assertEqual(in_order(expected), in_order([some for some in sets if rule.fits(web, some)]), words)
        self.assertEqual(in_order(expected), sets_of(grown(web, rule)), words)


class SomeWoods(Both):
    def test_by_hand(self):
        web = Web(3, [(0, 1), (1, 2), (0, 2)])
        self.held([some for some in all_sets_below(3) if len(some) < 3], web, Woods())
        web = Web(5, [(0, 1), (1, 2), (0, 2), (3, 4)])
        self.held([some for some in all_sets_below(4) if some not in ((0, 1, 2), (0, 1, 2, 3))], web, Woods())

    def test_without_ties(self):
        for points in (1, 2, 10):
            self.held([()], Web(points, []), Woods())
            self.assertEqual((0, [], 1), told(grown(Web(points, []), Woods())))

    def test_none_and_each_alone(self):
        for points, ties in SMALL_WEBS + WEBS:
            web = Web(points, ties)
            sets = sets_of(grown(web, Woods()))
            for some in [()] + [(number,) for number in range(len(ties))]:
                self.assertIs(True, Woods().fits(web, some))
                self.assertIn(some, sets)

    def test_every_set_of_a_web_without_rings(self):
        for ties in ([(0, k) for k in range(1, 10)], [(k, k + 1) for k in range(9)], [(0, 9), (9, 3), (5, 4)]):
            self.held(all_sets_below(len(ties)), Web(10, ties), Woods())

    def test_own_look_for_a_ring(self):
        for points, ties in SMALL_WEBS + WEBS:
            rings = [set(ring) for ring in rings_by_walk(points, ties)]
            expected = []
            for some in all_sets_below(len(ties)):
                ringless = not any(ring <= set(some) for ring in rings)
                self.assertEqual(ringless, not has_ring(ties, some))
                if ringless:
                    expected.append(some)
            self.held(expected, Web(points, ties), Woods())


class SomeTrees(Both):
    def test_by_hand(self):
        self.held([(0, 1), (0, 2), (1, 2)], Web(3, [(0, 1), (1, 2), (0, 2)]), Trees())
        self.held([(0, 1, 3), (0, 2, 3), (1, 2, 3)], Web(4, [(0, 1), (1, 2), (0, 2), (2, 3)]), Trees())
        self.held([(0,)], Web(2, [(0, 1)]), Trees())

    def test_one_point(self):
        self.held([()], Web(1, []), Trees())
        self.assertEqual((0, [], 1), told(grown(Web(1, []), Trees())))

    def test_none_where_the_web_does_not_hang_together(self):
        for points, ties in ((2, []), (10, []), (3, [(0, 1)]), (3, [(1, 2)]), (4, [(0, 1), (2, 3)]), TWELVES[2],
                             (6, [(0, 1), (3, 4), (1, 2), (4, 5), (2, 0), (5, 3)]), (4, [(0, 1), (1, 2), (0, 2)])):
            self.held([], Web(points, ties), Trees())
            self.assertEqual((len(ties), [], 0), told(grown(Web(points, ties), Trees())))

    def test_the_whole_web_where_it_is_one(self):
        self.held([tuple(range(9))], Web(10, [(0, k) for k in range(1, 10)]), Trees())
        self.held([tuple(range(9))], Web(10, [(k, k + 1) for k in (4, 0, 8, 2, 6, 1, 5, 3, 7)]), Trees())

    def test_how_many(self):
        # Of all ties between five points 125, as 5 * 5 * 5; of a ring of ten each but one tie.
        self.assertEqual(125, len(sets_of(grown(Web(5, BIG_SAMPLES[0][1]), Trees()))))
        self.assertEqual(10, len(sets_of(grown(Web(10, BIG_SAMPLES[1][1]), Trees()))))

    def test_woods_by_which_all_hang_together(self):
        for points, ties in SMALL_WEBS + WEBS:
            sets = [some for some in all_sets_below(len(ties)) if not has_ring(ties, some)]
            expected = [some for some in sets if all_hang_together(points, ties, some)]
            self.assertEqual(expected, [some for some in expected if len(some) == points - 1])
            self.held(expected, Web(points, ties), Trees())


if __name__ == "__main__":
    unittest.main()
