"""[2] for rules: sets as lists and tuples, nothing handed in changed or kept, each told list the asker's own."""

import unittest

from frontways.covers import Covers
from frontways.crowds import Crowds
from frontways.errors import FrontError
from frontways.growing import grown
from frontways.pairs import Pairs
from frontways.sieves import sets_of
from frontways.ways import Rings, Rounds, Ways
from frontways.webs import Web
from frontways.woods import Trees, Woods
from sample_rules import rules_for
from sample_sieves import all_sets_below, told

TIES = [(3, 0), (0, 1), (1, 2), (2, 3), (1, 3)]


def web_told(web):
    return repr([web.size(), web.ties(), [web.at(point) for point in range(web.size())]])


def all_told(web, rule):
    """All that a web and a rule are asked in these tests, as one value that no list is shared with."""
    sieve = grown(web, rule)
    fits = [rule.fits(web, some) for some in all_sets_below(len(web.ties()))]
    return repr([told(sieve), sets_of(sieve), fits])


class HandedIn(unittest.TestCase):
    def test_sets_as_lists_and_as_tuples(self):
        web = Web(4, TIES)
        for name, make in rules_for(4):
            for some in all_sets_below(5):
                self.assertIs(make().fits(web, some), make().fits(web, list(some)))

    def test_sets_stay_as_they_were(self):
        web = Web(4, TIES)
        for name, make in rules_for(4):
            for some in all_sets_below(5):
                handed = list(some)
                make().fits(web, handed)
                self.assertEqual(list(some), handed)

    def test_refused_sets_stay_as_they_were(self):
        handed = [0, 2, 4]
        self.assertRaises(FrontError, Ways(0, 4).fits, Web(4, TIES), handed)
        self.assertEqual([0, 2, 4], handed)

    def test_webs_stay_as_they_were(self):
        web = Web(4, TIES)
        before = web_told(web)
        for name, make in rules_for(4):
            all_told(web, make())
            self.assertEqual(before, web_told(web))
        for rule in (Ways(0, 4), Ways(2, 2)):
            self.assertRaises(FrontError, grown, web, rule)
            self.assertRaises(FrontError, rule.fits, web, (0,))
            self.assertEqual(before, web_told(web))

    def test_rules_stay_as_they_were(self):
        for name, make in rules_for(4):
            rule = make()
            before = repr(sorted(vars(rule).items()))
            all_told(Web(4, TIES), rule)
            self.assertEqual(before, repr(sorted(vars(rule).items())))

    def test_a_later_change_is_not_seen(self):
        ties = [list(tie) for tie in TIES]
        web = Web(4, ties)
        sieve = grown(web, Rings())
        before = repr([told(sieve), sets_of(sieve)])
        ties.clear()
        web.ties().clear()
        self.assertEqual(before, repr([told(sieve), sets_of(sieve)]))
        self.assertEqual(before, repr([told(grown(web, Rings())), sets_of(grown(web, Rings()))]))


class Askers(unittest.TestCase):
    def test_what_is_told_is_the_askers_own(self):
        web = Web(4, TIES)
        for name, make in rules_for(4):
            rule = make()
            before = all_told(web, rule)
            sieve = grown(web, rule)
            for ask in (sieve.knots, lambda: sets_of(sieve), web.ties, lambda: web.at(1)):
                first = ask()
                kept = repr(first)
                first.reverse()
                first.append(99)
                self.assertEqual(kept, repr(ask()))
                self.assertEqual(before, all_told(web, rule))

    def test_the_same_after_others_were_asked(self):
        web = Web(4, TIES)
        other = Web(5, [(0, 4), (4, 1), (1, 0), (2, 3)])
        rules = [make() for name, make in rules_for(4)]
        before = [all_told(web, rule) for rule in rules]
        for rule in rules + [Woods(), Trees(), Rounds(), Ways(4, 0), Crowds(2, 4), Pairs(True), Pairs(), Covers()]:
            all_told(other, rule)
        self.assertRaises(FrontError, grown, web, Ways(4, 0))
        self.assertRaises(FrontError, Crowds, 3, 2)
        self.assertRaises(FrontError, Ways(1, 1).fits, web, ())
        self.assertEqual(before, [all_told(web, rule) for rule in rules])
        self.assertEqual(before, [all_told(Web(4, TIES), make()) for name, make in rules_for(4)])

    def test_rules_share_nothing(self):
        web = Web(4, TIES)
        for make_one, make_other in ((lambda: Ways(0, 2), lambda: Ways(1, 3)), (Pairs, lambda: Pairs(True)),
                                     (lambda: Pairs(True), Pairs), (lambda: Crowds(1, 2), lambda: Crowds(2, 4))):
            one = make_one()
            before = all_told(web, one)
            other = make_other()
            self.assertNotEqual(before, all_told(web, other))
            self.assertEqual(before, all_told(web, one))


if __name__ == "__main__":
    unittest.main()
