"""[5]: the parts of a web by a set, and how many ties of it each point has."""

import unittest

from frontways.webs import Web, tie_counts, web_parts
from sample_webs import BIG_SAMPLES, SAMPLES, TWELVE_TIES, all_sets_of, hang_together


def some_sets(many):
    """All sets of a small web's ties; of a greater one (), each single tie, all but one, all."""
    if many <= 6:
        return all_sets_of(many)
    singles = [(k,) for k in range(many)]
    lacking = [tuple(n for n in range(many) if n != k) for k in range(many)]
    return [()] + singles + lacking + [tuple(range(0, many, 2)), tuple(range(many))]


class Parts(unittest.TestCase):
    def test_without_ties_each_point_is_alone(self):
        self.assertEqual([[0]], web_parts(Web(1, []), ()))
        self.assertEqual([[k] for k in range(10)], web_parts(Web(10, []), ()))
        self.assertEqual([[0], [1], [2], [3], [4]], web_parts(Web(5, [(0, 4), (1, 2)]), ()))

    def test_one_tie(self):
        web = Web(5, [(0, 1), (4, 2), (3, 1)])
        self.assertEqual([[0, 1], [2], [3], [4]], web_parts(web, (0,)))
        self.assertEqual([[0], [1], [2, 4], [3]], web_parts(web, (1,)))
        self.assertEqual([[0], [1, 3], [2], [4]], web_parts(web, (2,)))

    def test_all_ties(self):
        self.assertEqual([[0, 1, 3], [2, 4]], web_parts(Web(5, [(0, 1), (4, 2), (3, 1)]), (0, 1, 2)))
        self.assertEqual([[0, 1, 2, 3, 4, 5, 6]], web_parts(Web(7, TWELVE_TIES), tuple(range(12))))
        self.assertEqual([list(range(7)), [7], [8], [9]], web_parts(Web(10, TWELVE_TIES), tuple(range(12))))

    def test_order_of_the_parts_and_within(self):
        web = Web(8, [(7, 1), (6, 2), (5, 3), (1, 5), (4, 6)])
        self.assertEqual([[0], [1, 3, 5, 7], [2, 4, 6]], web_parts(web, (0, 1, 2, 3, 4)))
        self.assertEqual([[0], [1, 7], [2, 6], [3, 5], [4]], web_parts(web, (0, 1, 2)))

    def test_greater_parts_that_grow_together(self):
        web = Web(6, [(4, 5), (2, 3), (3, 5), (0, 1), (1, 4)])
        self.assertEqual([[0, 1], [2, 3, 4, 5]], web_parts(web, (0, 1, 2, 3)))
        self.assertEqual([[0, 1, 2, 3, 4, 5]], web_parts(web, (0, 1, 2, 3, 4)))

    def test_against_walks(self):
        for many, ties in SAMPLES + BIG_SAMPLES + [(8, TWELVE_TIES)]:
            web = Web(many, ties)
            for some in some_sets(len(ties)):
                parts = web_parts(web, some)
                expected = []
                for point in range(many):
                    part = [other for other in range(many) if hang_together(ties, some, point, other)]
                    if part not in expected:
                        expected.append(part)
                self.assertEqual(expected, parts, (many, ties, some))
                self.assertTrue(type(parts) is list and all(type(part) is list for part in parts))


class Counts(unittest.TestCase):
    def test_no_ties(self):
        self.assertEqual([0], tie_counts(Web(1, []), ()))
        self.assertEqual([0] * 10, tie_counts(Web(10, []), ()))
        self.assertEqual([0] * 7, tie_counts(Web(7, TWELVE_TIES), ()))

    def test_one_tie(self):
        web = Web(5, [(0, 1), (4, 2), (3, 1)])
        self.assertEqual([1, 1, 0, 0, 0], tie_counts(web, (0,)))
        self.assertEqual([0, 0, 1, 0, 1], tie_counts(web, (1,)))
        self.assertEqual([0, 1, 0, 1, 0], tie_counts(web, (2,)))

    def test_all_ties(self):
        self.assertEqual([1, 2, 1, 1, 1], tie_counts(Web(5, [(0, 1), (4, 2), (3, 1)]), (0, 1, 2)))
        self.assertEqual([4, 4, 4, 3, 3, 3, 3], tie_counts(Web(7, TWELVE_TIES), tuple(range(12))))
        self.assertEqual([9] + [1] * 9, tie_counts(Web(10, [(0, k) for k in range(1, 10)]), tuple(range(9))))

    def test_against_the_ties(self):
        for many, ties in SAMPLES + BIG_SAMPLES + [(8, TWELVE_TIES)]:
            web = Web(many, ties)
            for some in some_sets(len(ties)):
                ends = [point for number in some for point in ties[number]]
                told = tie_counts(web, some)
                self.assertEqual([ends.count(point) for point in range(many)], told)
                self.assertIs(list, type(told))


if __name__ == "__main__":
    unittest.main()
