"""Of [14] what the class Rule is: the one under which all rules stand, with fits(web, some)."""

import unittest

from frontways.errors import BadRule
from frontways.rules import Rule
from frontways.webs import Web
from sample_sieves import all_sets_below, refused


class Singles(Rule):
    """A rule of the test's own: sets of one tie, in webs of two points or more."""

    def fits(self, web, some):
        if web.size() < 2:
            return Rule.fits(self, web, some)
        return len(some) == 1


class Rules(unittest.TestCase):
    def test_by_itself_it_goes_with_no_web(self):
        for web in (Web(1, []), Web(2, [(0, 1)]), Web(3, [(0, 1), (1, 2), (0, 2)])):
            for some in all_sets_below(len(web.ties())):
                refused(self, BadRule, Rule().fits, web, some)
                refused(self, BadRule, Rule().fits, web, list(some))

    def test_a_rule_under_it(self):
        rule = Singles()
        self.assertIsInstance(rule, Rule)
        web = Web(3, [(0, 1), (1, 2), (0, 2)])
        for some in all_sets_below(3):
            self.assertIs(len(some) == 1, rule.fits(web, some))
        refused(self, BadRule, rule.fits, Web(1, []), ())


if __name__ == "__main__":
    unittest.main()
