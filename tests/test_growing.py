"""[14] and, for grown sieves, [3] and [10]: just the sets that fit, in the one least sieve of them."""

import unittest
from itertools import permutations

from frontways.counting import count_of, size_counts
from frontways.covers import Covers
from frontways.crowds import Crowds
from frontways.errors import BadRule
from frontways.fronts import narrow_order, reordered
from frontways.growing import grown
from frontways.making import least_sieve, sieve_of
from frontways.pairs import Pairs
from frontways.parting import parted_by
from frontways.rules import Rule
from frontways.sieves import Sieve, has_set, sets_of
from frontways.ways import Rings, Rounds, Ways
from frontways.webs import Web
from frontways.woods import Trees, Woods
from sample_rules import RING_WEBS, SMALL_WEBS, TWELVES, WEBS, fits_by_words, rules_for
from sample_sieves import all_sets_below, held_to_words, in_order, refused, sets_by_words, told
from sample_webs import SAMPLES, all_webs_of

MOST_SETS = 60
MOST_ROWS = 300


class Odd(Rule):
    """A rule of the test's own, with no more than fits: sets of one, three, five .. ties, in webs with ties."""

    def fits(self, web, some):
        if web.ties() == []:
            raise BadRule("no ties")
        return len(some) % 2 == 1


def each_rule(webs):
    for points, ties in webs:
        for name, make in rules_for(points):
            yield points, ties, name, make()


def whole_graph(n, fitting):
    """A greater graph: a knot for each choice of the ties ahead, none of them merged."""
    rows = []

    def knot(chosen, tie):
        if tie == n:
            return int(chosen in fitting)
        without = knot(chosen, tie + 1)
        having = knot(chosen + (tie,), tie + 1)
        rows.append((tie, without, having))
        return len(rows) + 1

    top = knot((), 0)
    return rows, top


class Fitting(unittest.TestCase):
    def test_every_set_is_in_just_where_it_fits(self):
        for points, ties, name, rule in each_rule(SMALL_WEBS + WEBS):
            web = Web(points, ties)
            sieve = grown(web, rule)
            self.assertIs(Sieve, type(sieve))
            self.assertEqual(len(ties), sieve.many())
            sets = all_sets_below(len(ties))
            expected = fits_by_words(points, ties, name, sets)
            inside = sets_by_words(sieve.knots())[sieve.top()]
            self.assertEqual(expected, inside, (points, ties, name))
            for some in sets:
                fits = rule.fits(web, some)
                self.assertIs(some in expected, fits, (points, ties, name, some))
            for some in sets[::1 + len(sets) // 64]:
                self.assertIs(some in expected, has_set(sieve, some))
                self.assertIs(some in expected, rule.fits(web, list(some)), (points, ties, name, some))

    def test_all_webs_of_five_points(self):
        for ties in all_webs_of(5)[::3]:
            web = Web(5, ties)
            sets = all_sets_below(len(ties))
            for name, make in rules_for(5):
                told_sets = sets_of(grown(web, make()))
                self.assertEqual(in_order(fits_by_words(5, ties, name, sets)), told_sets, (ties, name))

    def test_by_turns(self):
        webs = [Web(points, ties) for points, ties in RING_WEBS + SAMPLES[5:8] if points > 2]
        for name, make in rules_for(3):
            rule = make()
            alone = [told(grown(web, make())) for web in webs]
            for order in (list(range(len(webs))), list(range(len(webs)))[::-1], [0, 3, 0, 1, 3]):
                for k in order:
                    self.assertEqual(alone[k], told(grown(webs[k], rule)))
                    some = tuple(range(len(webs[k].ties()) // 2))
                    self.assertIs(some in sets_of(grown(webs[k], rule)), rule.fits(webs[k], some))

    def test_two_webs_set_by_set_by_turns(self):
        one = Web(3, [(0, 1), (1, 2), (0, 2)])
        other = Web(4, [(0, 1), (2, 3), (1, 2)])
        for name, make in rules_for(3):
            rule = make()
            words = [fits_by_words(web.size(), web.ties(), name, all_sets_below(3)) for web in (one, other)]
            for some in all_sets_below(3):
                self.assertEqual([some in each for each in words], [rule.fits(web, some) for web in (one, other)])


class Refused(unittest.TestCase):
    def test_a_rule_of_no_sort(self):
        for points, ties in SAMPLES:
            refused(self, BadRule, grown, Web(points, ties), Rule())

    def test_fits_and_grown_alike(self):
        for rule in (Odd(), Ways(0, 1)):
            refused(self, BadRule, rule.fits, Web(1, []), ())
            refused(self, BadRule, grown, Web(1, []), rule)


class OwnRules(unittest.TestCase):
    def test_fits_is_enough(self):
        for points, ties in SAMPLES + TWELVES[:1]:
            if ties:
                sieve = grown(Web(points, ties), Odd())
                odd = [some for some in all_sets_below(len(ties)) if len(some) % 2]
                held_to_words(self, len(ties), odd, sieve)
        refused(self, BadRule, grown, Web(3, []), Odd())

    def test_all_stand_under_rule(self):
        for name, make in rules_for(2):
            self.assertIsInstance(make(), Rule)
        for kind in (Ways, Rings, Rounds, Woods, Trees, Crowds, Pairs, Covers):
            self.assertTrue(issubclass(kind, Rule))


class TheLeast(unittest.TestCase):
    def test_words(self):
        for points, ties, name, rule in each_rule(SMALL_WEBS[::3] + WEBS):
            sieve = grown(Web(points, ties), rule)
            if len(sieve.knots()) < 200:
                held_to_words(self, len(ties), sets_of(sieve), sieve)

    def test_the_same_as_of_the_list(self):
        seen = 0
        for points, ties, name, rule in each_rule(SMALL_WEBS + WEBS):
            sieve = grown(Web(points, ties), rule)
            sets = sets_of(sieve)
            if len(sets) <= MOST_SETS:
                seen += 1
                self.assertEqual(told(sieve_of(len(ties), sets)), told(sieve), (points, ties, name))
                self.assertEqual(told(sieve_of(len(ties), sets[::-1] + sets[:1])), told(sieve), (points, ties, name))
        self.assertGreater(seen, 200)

    def test_the_same_as_of_its_own_knots(self):
        for points, ties, name, rule in each_rule(SMALL_WEBS + WEBS):
            sieve = grown(Web(points, ties), rule)
            knots = sieve.knots()
            self.assertLess(len(knots), MOST_ROWS)
            self.assertEqual(told(least_sieve(sieve.many(), knots, sieve.top())), told(sieve), (points, ties, name))

    def test_the_same_as_of_a_greater_graph(self):
        for points, ties, name, rule in each_rule(SMALL_WEBS + SAMPLES + RING_WEBS):
            sets = all_sets_below(len(ties))
            rows, top = whole_graph(len(ties), fits_by_words(points, ties, name, sets))
            self.assertLess(len(rows), MOST_ROWS)
            expected = told(least_sieve(len(ties), rows, top))
            self.assertEqual(expected, told(grown(Web(points, ties), rule)), (points, ties, name))

    def test_knots_are_parted(self):
        for points, ties, name, rule in each_rule(SMALL_WEBS[::5] + RING_WEBS):
            sieve = grown(Web(points, ties), rule)
            sets = sets_by_words(sieve.knots())
            for first in range(len(sets)):
                for second in range(first):
                    which, some = parted_by(sieve, first, second)
                    self.assertEqual([which == 0, which == 1], [some in sets[first], some in sets[second]])


class Anew(unittest.TestCase):
    def test_reordered(self):
        for points, ties, name, rule in each_rule(SAMPLES + RING_WEBS + TWELVES[1:2] + TWELVES[-1:]):
            many = len(ties)
            web = Web(points, ties)
            orders = [list(range(many))[::-1], list(range(1, many, 2)) + list(range(0, many, 2))]
            if many <= 6:
                orders.append(narrow_order(web))
            before = grown(web, rule)
            for order in orders:
                new = {number: k for k, number in enumerate(order)}
                expected = in_order([tuple(sorted(new[number] for number in some)) for some in sets_of(before)])
                sieve = grown(reordered(web, order), rule)
                self.assertEqual(expected, sets_of(sieve), (points, ties, name, order))
                self.assertEqual(count_of(before), count_of(sieve))
                self.assertEqual(size_counts(before), size_counts(sieve))

    def test_every_order_of_a_web(self):
        web = Web(4, [(0, 1), (1, 2), (2, 3), (3, 0), (0, 2)])
        for name, make in rules_for(3):
            sets = sets_of(grown(web, make()))
            for order in permutations(range(5)):
                expected = {tuple(sorted(order.index(number) for number in some)) for some in sets}
                self.assertEqual(expected, set(sets_of(grown(reordered(web, order), make()))), (name, order))

    def test_points_numbered_anew(self):
        for points, ties in SAMPLES + RING_WEBS + TWELVES[-2:]:
            for new in (list(range(points))[::-1], list(range(1, points)) + [0]):
                web = Web(points, [(new[a], new[b]) for a, b in ties])
                for name, make in rules_for(points):
                    rule = Ways(new[name[1]], new[name[2]]) if name[0] == "ways" else make()
                    self.assertEqual(told(grown(Web(points, ties), make())), told(grown(web, rule)), (ties, name))


if __name__ == "__main__":
    unittest.main()
