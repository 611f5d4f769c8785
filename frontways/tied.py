"""Rules that ask of each point by itself how many ties of the set it has."""

from frontways.rules import Rule
from frontways.webs import tie_counts

# None of these rules tells two ties at a point from more: so a state counts no further.
SEVERAL = 2


class TiedPoints(Rule):
    """Each rule under it has an allows of its own.

    A state tells of each point how many ties it has, 0 of a passed one.
    """

    def allows(self, count):
        """Whether a point may have so many ties of the set."""
        return True

    def fits(self, web, some):
        return all([self.allows(count) for count in tie_counts(web, some)])

    def begun(self, web):
        return (0,) * web.size()

    def taken(self, web, state, number):
        tie = web.ties()[number]
        counts = [min(count + 1, SEVERAL) if point in tie else count for point, count in enumerate(state)]
        # Several at a point stay several, whatever comes.
        if SEVERAL in counts and not self.allows(SEVERAL):
            return None
        return tuple(counts)

    def passed(self, web, state, point):
        if self.allows(state[point]):
            return tuple([0 if other == point else count for other, count in enumerate(state)])
        return None

    def fulfilled(self, web, state):
        return True
