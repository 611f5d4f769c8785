"""[6]: fronts and widths."""

import unittest

from frontways.fronts import front_at, width_of
from frontways.webs import Web
from sample_webs import BIG_SAMPLES, SAMPLES, TWELVE_TIES, all_webs_of, front_of, width_by_hand

ALL = SAMPLES + BIG_SAMPLES + [(7, TWELVE_TIES), (10, TWELVE_TIES)]


class Fronts(unittest.TestCase):
    def test_a_way(self):
        web = Web(4, [(0, 1), (1, 2), (2, 3)])
        self.assertEqual([[], [1], [2], []], [front_at(web, k) for k in range(4)])

    def test_a_ring_with_a_point_alone(self):
        web = Web(5, [(4, 0), (0, 3), (3, 1), (1, 4)])
        self.assertEqual([[], [0, 4], [3, 4], [1, 4], []], [front_at(web, k) for k in range(5)])

    def test_points_rise(self):
        web = Web(6, [(5, 0), (4, 1), (3, 2), (0, 1), (2, 5), (3, 4)])
        self.assertEqual([0, 1, 2, 3, 4, 5], front_at(web, 3))
        self.assertEqual([2, 3, 4, 5], front_at(web, 4))

    def test_at_nought_and_at_the_number_of_ties(self):
        for many, ties in ALL:
            web = Web(many, ties)
            self.assertEqual([], front_at(web, 0))
            self.assertEqual([], front_at(web, len(ties)))

    def test_at_each_k(self):
        for many, ties in ALL:
            web = Web(many, ties)
            for k in range(len(ties) + 1):
                told = front_at(web, k)
                self.assertEqual(front_of(many, ties, k), told, (many, ties, k))
                self.assertIs(list, type(told))

    def test_somewhat_beyond_is_not_refused(self):
        web = Web(3, [(0, 1), (1, 2), (0, 2)])
        for k in (-2, -1, 4, 5, 10 ** 59):
            self.assertEqual([], front_at(web, k))


class Widths(unittest.TestCase):
    def test_without_ties(self):
        for many in (1, 2, 10):
            self.assertEqual(0, width_of(Web(many, [])))

    def test_with_one_tie(self):
        self.assertEqual(0, width_of(Web(2, [(0, 1)])))

    def test_some(self):
        self.assertEqual(1, width_of(Web(4, [(0, 1), (1, 2), (2, 3)])))
        self.assertEqual(2, width_of(Web(4, [(0, 1), (2, 3), (1, 2)])))
        self.assertEqual(2, width_of(Web(3, [(0, 1), (1, 2), (0, 2)])))
        self.assertEqual(6, width_of(Web(6, [(5, 0), (4, 1), (3, 2), (0, 1), (2, 5), (3, 4)])))
        self.assertEqual(10, width_of(Web(10, [(k, k + 1) for k in (0, 2, 4, 6, 8, 1, 3, 5, 7)] + [(0, 9)])))

    def test_the_greatest_of_all_fronts(self):
        for many, ties in ALL + [(4, ties) for ties in all_webs_of(4)]:
            told = width_of(Web(many, ties))
            self.assertEqual(width_by_hand(many, ties), told)
            self.assertIs(int, type(told))


if __name__ == "__main__":
    unittest.main()
