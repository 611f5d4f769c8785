"""Rules: what tells of each set of a web's ties whether it fits."""

from frontways.errors import BadRule


class Rule:
    """The one under which all rules stand; each of them has a fits of its own."""

    def fits(self, web, some):
        # By itself it says nothing of any set: so there is no web that it goes with.
        raise BadRule("a rule of no sort goes with no web")
