"""[7] and the last sentence of [3]: orders, reordered webs, narrow orders."""

import unittest
from itertools import permutations

from frontways.errors import FrontError, NoOrder, TooMany
from frontways.fronts import narrow_order, reordered, width_of
from frontways.webs import Web
from sample_webs import (
    BIG_SAMPLES, SAMPLES, TWELVE_TIES, all_webs_of, least_width_by_limits, least_width_of_all_orders,
)


class Reordered(unittest.TestCase):
    def test_as_it_stands(self):
        for many, ties in SAMPLES + BIG_SAMPLES + [(7, TWELVE_TIES)]:
            web = Web(many, ties)
            again = reordered(web, list(range(len(ties))))
            self.assertIs(Web, type(again))
            self.assertEqual((web.size(), web.ties()), (again.size(), again.ties()))

    def test_turned_about_and_back(self):
        for many, ties in SAMPLES + BIG_SAMPLES + [(7, TWELVE_TIES)]:
            web = Web(many, ties)
            order = list(range(len(ties)))[::-1]
            turned = reordered(web, order)
            self.assertEqual((many, web.ties()[::-1]), (turned.size(), turned.ties()))
            self.assertEqual(web.ties(), reordered(turned, order).ties())

    def test_tie_k_is_the_tie_order_k_of_the_first(self):
        web = Web(6, [(0, 1), (1, 2), (2, 3), (3, 4)])
        told = reordered(web, [2, 0, 3, 1])
        self.assertEqual([(2, 3), (0, 1), (3, 4), (1, 2)], told.ties())
        self.assertEqual(6, told.size())
        self.assertEqual([1, 3], told.at(1))
        for order in permutations(range(4)):
            told = reordered(web, list(order)).ties()
            self.assertEqual([web.ties()[k] for k in order], told)

    def test_the_first_web_stays(self):
        web = Web(3, [(0, 1), (1, 2)])
        reordered(web, [1, 0])
        self.assertEqual([(0, 1), (1, 2)], web.ties())


class NoOrders(unittest.TestCase):
    def refused(self, web, order):
        with self.subTest(order=order):
            with self.assertRaises(FrontError) as caught:
                reordered(web, order)
            self.assertIs(NoOrder, type(caught.exception))
            self.assertIsInstance(caught.exception, ValueError)

    def test_three_ties(self):
        web = Web(4, [(0, 1), (1, 2), (2, 3)])
        short = [[], [0], [0, 1], [2, 1]]
        long = [[0, 1, 2, 3], [0, 1, 2, 2], [0, 1, 2, 0], [0, 1, 2, -1], [2, 1, 0, 0, 1, 2]]
        twice = [[0, 0, 1], [1, 2, 1], [2, 2, 2], [0, 0, 2]]
        below = [[0, 1, -1], [-1, 0, 1], [-3, -2, -1], [0, 2, -2], [0, 1, -10 ** 59]]
        beyond = [[0, 1, 3], [1, 2, 3], [3, 1, 2], [0, 1, 10 ** 60 - 1]]
        for order in short + long + twice + below + beyond:
            self.refused(web, order)
            self.refused(web, tuple(order))

    def test_no_ties(self):
        self.assertEqual([], reordered(Web(2, []), []).ties())
        self.refused(Web(2, []), [0])
        self.refused(Web(2, []), [-1])

    def test_one_tie(self):
        self.assertEqual([(0, 1)], reordered(Web(2, [(0, 1)]), [0]).ties())
        for order in ([], [1], [-1], [0, 0], [0, 1]):
            self.refused(Web(2, [(0, 1)]), order)

    def test_twelve_ties(self):
        web = Web(7, TWELVE_TIES)
        self.assertEqual(TWELVE_TIES[::-1], reordered(web, list(range(12))[::-1]).ties())
        for order in (list(range(11)), list(range(13)), list(range(1, 13)), [0] + list(range(11))):
            self.refused(web, order)


class NarrowOrders(unittest.TestCase):
    def told_width(self, many, ties):
        web = Web(many, ties)
        order = narrow_order(web)
        self.assertIs(list, type(order))
        self.assertEqual(list(range(len(ties))), sorted(order))
        self.assertEqual(web.ties(), Web(many, ties).ties())
        return width_of(reordered(web, order))

    def test_no_tie_and_one(self):
        for many in (1, 2, 10):
            self.assertEqual([], narrow_order(Web(many, [])))
        self.assertEqual([0], narrow_order(Web(2, [(0, 1)])))

    def test_no_other_order_is_narrower(self):
        for many, ties in SAMPLES:
            web = Web(many, ties)
            told = self.told_width(many, ties)
            for order in permutations(range(len(ties))):
                self.assertLessEqual(told, width_of(reordered(web, list(order))), (many, ties, order))

    def test_every_web_of_four_points(self):
        for ties in all_webs_of(4):
            least = least_width_of_all_orders(4, ties)
            self.assertEqual(least, least_width_by_limits(4, ties))
            self.assertEqual(least, self.told_width(4, ties))
            self.assertEqual(least, self.told_width(4, ties[::2] + ties[1::2]))

    def test_every_web_of_five_points(self):
        for ties in all_webs_of(5):
            mixed = ties[::3] + ties[2::3] + ties[1::3]
            self.assertEqual(least_width_by_limits(5, mixed), self.told_width(5, mixed), mixed)

    def test_ten_ties(self):
        for many, ties in BIG_SAMPLES:
            self.assertEqual(least_width_by_limits(many, ties), self.told_width(many, ties), ties)
        self.assertEqual(10, len(BIG_SAMPLES[0][1]))
        self.assertEqual(2, self.told_width(*BIG_SAMPLES[2]))
        self.assertEqual(1, self.told_width(*BIG_SAMPLES[3]))

    def test_more_than_ten_ties(self):
        for ties in (TWELVE_TIES[:11], TWELVE_TIES):
            with self.assertRaises(FrontError) as caught:
                narrow_order(Web(7, ties))
            self.assertIs(TooMany, type(caught.exception))
        self.assertEqual(10, len(narrow_order(Web(7, TWELVE_TIES[:10]))))


if __name__ == "__main__":
    unittest.main()
