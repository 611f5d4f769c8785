"""[4]: webs, what they tell and what is refused."""

import unittest

from frontways.errors import BadTie, FrontError, TooMany, Twice
from frontways.webs import Web
from sample_webs import BIG_SAMPLES, SAMPLES, TWELVE_TIES

HUGE = 10 ** 60 - 1


class RefusalCase(unittest.TestCase):
    def refused(self, kind, many, ties):
        with self.subTest(many=many, ties=ties):
            with self.assertRaises(FrontError) as caught:
                Web(many, ties)
            self.assertIs(kind, type(caught.exception))
            self.assertIsInstance(caught.exception, ValueError)


class Told(unittest.TestCase):
    def test_size(self):
        for many in range(1, 11):
            self.assertEqual(many, Web(many, []).size())
        self.assertEqual(7, Web(7, TWELVE_TIES).size())

    def test_ties_with_the_lesser_point_first_in_the_order_handed_in(self):
        web = Web(10, [(9, 0), (3, 5), (5, 4), (0, 1)])
        self.assertEqual([(0, 9), (3, 5), (4, 5), (0, 1)], web.ties())
        for many, ties in SAMPLES + BIG_SAMPLES:
            told = Web(many, ties).ties()
            self.assertEqual([(min(tie), max(tie)) for tie in ties], told)
            self.assertIs(list, type(told))
            self.assertTrue(all(type(tie) is tuple for tie in told))

    def test_no_ties_and_twelve(self):
        self.assertEqual([], Web(1, []).ties())
        self.assertEqual([], Web(10, []).ties())
        self.assertEqual(TWELVE_TIES, Web(7, TWELVE_TIES).ties())
        self.assertEqual(12, len(Web(10, TWELVE_TIES).ties()))

    def test_at(self):
        web = Web(5, [(1, 0), (2, 3), (3, 1), (0, 3)])
        self.assertEqual([0, 3], web.at(0))
        self.assertEqual([0, 2], web.at(1))
        self.assertEqual([1], web.at(2))
        self.assertEqual([1, 2, 3], web.at(3))
        self.assertEqual([], web.at(4))
        self.assertEqual([], Web(1, []).at(0))

    def test_at_every_point(self):
        for many, ties in SAMPLES + BIG_SAMPLES + [(7, TWELVE_TIES)]:
            web = Web(many, ties)
            for point in range(many):
                told = web.at(point)
                self.assertEqual([k for k in range(len(ties)) if point in ties[k]], told)
                self.assertIs(list, type(told))

    def test_at_somewhat_beyond_the_points_is_not_refused(self):
        web = Web(3, [(0, 1), (1, 2)])
        for point in (-1, -2, 3, 4, HUGE):
            self.assertEqual([], web.at(point))


class Amounts(RefusalCase):
    def test_points(self):
        for many in (0, -1, -2, 11, 12, HUGE, -HUGE):
            self.refused(TooMany, many, [])
            self.refused(TooMany, many, [(0, 1)])

    def test_thirteen_ties(self):
        self.refused(TooMany, 7, TWELVE_TIES + [(0, 1)])
        self.refused(TooMany, 10, TWELVE_TIES + [(0, 1), (0, 2)])

    def test_ahead_of_bad_ties(self):
        for tie in [(0, 0), (-1, 0), (0, 7), (HUGE, 1), (0, 3), (3, 0)]:
            self.refused(TooMany, 7, TWELVE_TIES + [tie])
            self.refused(TooMany, 7, [tie] + TWELVE_TIES)
            self.refused(TooMany, 0, [tie])
            self.refused(TooMany, -1, [tie, tie])
            self.refused(TooMany, 11, [tie, tie])
        self.refused(TooMany, 11, [(0, 10), (10, 10)])


class BadTies(RefusalCase):
    def test_points_below_nought(self):
        for tie in [(-1, 0), (0, -1), (-1, 2), (2, -3), (-2, -1), (-HUGE, 0)]:
            self.refused(BadTie, 4, [tie])
            self.refused(BadTie, 4, [(0, 1), tie])

    def test_points_from_the_number_of_points_on(self):
        for tie in [(0, 4), (4, 0), (3, 5), (5, 6), (1, HUGE)]:
            self.refused(BadTie, 4, [tie])
            self.refused(BadTie, 4, [(0, 1), tie])
        self.refused(BadTie, 10, [(9, 10)])
        self.refused(BadTie, 1, [(0, 1)])
        self.assertEqual([(0, 3)], Web(4, [(3, 0)]).ties())
        self.assertEqual([(8, 9)], Web(10, [(9, 8)]).ties())

    def test_both_the_same(self):
        for tie in [(0, 0), (2, 2), (3, 3), (4, 4), (-1, -1)]:
            self.refused(BadTie, 4, [tie])
            self.refused(BadTie, 4, [(0, 1), tie])
        self.refused(BadTie, 1, [(0, 0)])


class TwiceTied(RefusalCase):
    def test_in_this_order_and_the_other(self):
        self.refused(Twice, 3, [(0, 1), (0, 1)])
        self.refused(Twice, 3, [(0, 1), (1, 0)])
        self.refused(Twice, 3, [(1, 0), (0, 1)])
        self.refused(Twice, 3, [(2, 1), (0, 1), (0, 2), (2, 1)])
        self.refused(Twice, 3, [(2, 1), (0, 1), (0, 2), (1, 2)])
        self.refused(Twice, 7, TWELVE_TIES[:11] + [TWELVE_TIES[0]])
        self.refused(Twice, 7, TWELVE_TIES[:11] + [(TWELVE_TIES[10][1], TWELVE_TIES[10][0])])

    def test_the_first_tie_refused_decides(self):
        self.refused(Twice, 3, [(0, 1), (1, 0), (2, 2)])
        self.refused(Twice, 3, [(0, 1), (0, 1), (-1, 0), (0, 3)])
        self.refused(BadTie, 3, [(0, 1), (2, 2), (1, 0)])
        self.refused(BadTie, 3, [(0, 1), (0, 3), (0, 1)])
        self.refused(BadTie, 3, [(2, 2), (2, 2)])
        self.refused(BadTie, 3, [(0, 3), (3, 0)])


if __name__ == "__main__":
    unittest.main()
