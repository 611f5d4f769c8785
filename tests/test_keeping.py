"""[2]: lists and tuples alike, nothing handed in changed or kept, each told list the asker's own."""

import unittest

from frontways.errors import FrontError
from frontways.fronts import front_at, narrow_order, reordered, width_of
from frontways.webs import Web, tie_counts, web_parts

TIES = [(3, 0), (0, 1), (1, 2), (4, 1)]


def all_told(web):
    """All that a web of four ties is asked in these tests, as one value that no list is shared with."""
    return repr([
        web.size(),
        web.ties(),
        [web.at(point) for point in range(web.size())],
        [web_parts(web, some) for some in ((), (0,), (1, 2), (0, 1, 2, 3))],
        [tie_counts(web, some) for some in ((), (0,), (1, 2), (0, 1, 2, 3))],
        [front_at(web, k) for k in range(5)],
        width_of(web),
        narrow_order(web),
        reordered(web, [3, 2, 0, 1]).ties(),
    ])


class ListsAndTuples(unittest.TestCase):
    def test_ties(self):
        told = all_told(Web(5, TIES))
        self.assertEqual(told, all_told(Web(5, tuple(TIES))))
        self.assertEqual(told, all_told(Web(5, [list(tie) for tie in TIES])))
        self.assertEqual(told, all_told(Web(5, tuple(list(tie) for tie in TIES))))

    def test_sets(self):
        web = Web(5, TIES)
        for some in ((), (1,), (0, 3), (0, 1, 2, 3)):
            self.assertEqual(web_parts(web, some), web_parts(web, list(some)))
            self.assertEqual(tie_counts(web, some), tie_counts(web, list(some)))

    def test_orders(self):
        web = Web(5, TIES)
        self.assertEqual(reordered(web, [2, 0, 3, 1]).ties(), reordered(web, (2, 0, 3, 1)).ties())


class HandedIn(unittest.TestCase):
    def test_ties_stay_as_they_were(self):
        ties = [[3, 0], [0, 1], [1, 2], [4, 1]]
        all_told(Web(5, ties))
        self.assertEqual([[3, 0], [0, 1], [1, 2], [4, 1]], ties)

    def test_refused_ties_stay_as_they_were(self):
        for ties in ([[2, 0], [0, 2]], [[2, 0], [1, 1]], [[2, 0], [9, 0]]):
            before = repr(ties)
            self.assertRaises(FrontError, Web, 3, ties)
            self.assertEqual(before, repr(ties))

    def test_sets_and_orders_stay_as_they_were(self):
        web = Web(5, TIES)
        some = [0, 2, 3]
        order = [2, 0, 3, 1]
        short = [2, 0]
        web_parts(web, some)
        tie_counts(web, some)
        reordered(web, order)
        self.assertRaises(FrontError, reordered, web, short)
        self.assertEqual(([0, 2, 3], [2, 0, 3, 1], [2, 0]), (some, order, short))

    def test_a_later_change_of_the_ties_is_not_seen(self):
        ties = [list(tie) for tie in TIES]
        web = Web(5, ties)
        told = all_told(web)
        ties[0][0] = 2
        ties[1].reverse()
        self.assertEqual(told, all_told(web))
        ties.append([2, 3])
        ties.pop(0)
        self.assertEqual(told, all_told(web))
        ties.clear()
        self.assertEqual(told, all_told(web))

    def test_a_later_change_of_the_order_is_not_seen(self):
        order = [2, 0, 3, 1]
        web = reordered(Web(5, TIES), order)
        told = all_told(web)
        order.reverse()
        self.assertEqual(told, all_told(web))


class Askers(unittest.TestCase):
    """Each told list is altered; the web then still tells all that it told."""

    def asked_again(self, ask):
        web = Web(5, TIES)
        before = all_told(web)
        first = ask(web)
        kept = repr(first)
        self.spoil(first)
        self.assertEqual(kept, repr(ask(web)))
        self.assertEqual(before, all_told(web))
        self.assertIsNot(ask(web), ask(web))

    def spoil(self, told):
        for one in told:
            if isinstance(one, list):
                one.append(77)
        told.reverse()
        told.append(99)

    def test_of_webs(self):
        self.asked_again(lambda web: web.ties())
        for point in range(5):
            self.asked_again(lambda web: web.at(point))

    def test_of_sets(self):
        for some in ((), (0,), (1, 2), (0, 1, 2, 3)):
            self.asked_again(lambda web: web_parts(web, some))
            self.asked_again(lambda web: tie_counts(web, some))

    def test_of_fronts(self):
        for k in range(5):
            self.asked_again(lambda web: front_at(web, k))

    def test_of_orders(self):
        self.asked_again(lambda web: narrow_order(web))
        self.asked_again(lambda web: reordered(web, [1, 0, 3, 2]).ties())

    def test_webs_share_nothing(self):
        web = Web(5, TIES)
        before = all_told(web)
        same = reordered(web, [0, 1, 2, 3])
        same.ties().clear()
        same.at(0).clear()
        self.assertEqual(before, all_told(web))
        self.assertEqual(before, all_told(same))

    def test_the_same_after_other_webs_were_asked(self):
        web = Web(5, TIES)
        before = all_told(web)
        other = Web(6, [(0, 5), (5, 4), (4, 3), (3, 2)])
        all_told(other)
        self.assertRaises(FrontError, Web, 2, [(0, 0)])
        self.assertRaises(FrontError, reordered, web, [0])
        self.assertEqual(before, all_told(web))
        self.assertEqual(before, all_told(Web(5, TIES)))


if __name__ == "__main__":
    unittest.main()
