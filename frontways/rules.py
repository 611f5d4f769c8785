"""Rules: what tells of each set of a web's ties whether it fits, and how a sieve is grown of it."""

from frontways.errors import BadRule


class Rule:
    """The one under which all rules stand; each of them has a fits of its own.

    The other methods are for growing, which goes through a web's ties by their numbers and keeps a state of the ties
    put in so far. None in the place of a state says that nothing fits any more, whatever comes. Here the state is
    the set itself, which goes for each rule; a rule that forgets what no longer matters has fewer states.
    """

    def fits(self, web, some):
        # By itself it says nothing of any set: so there is no web that it goes with.
        raise BadRule("a rule of no sort goes with no web")

    def begun(self, web):
        """The state ahead of all ties; refused where the rule doesn't go with the web."""
        return ()

    def taken(self, web, state, number):
        """The state with the tie of this number put in, too."""
        return state + (number,)

    def left(self, web, state, number):
        """The state with the tie of this number left out for good."""
        return state

    def passed(self, web, state, point):
        """The state when no tie is still to come that has this point; each point is passed once."""
        return state

    def fulfilled(self, web, state):
        """Whether the ties that were put in fit, when all ties are behind and all points passed."""
        return self.fits(web, state)
