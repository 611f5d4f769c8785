"""Growing: of a web and a rule the sieve of all sets that fit, tie by tie."""

from frontways.making import least_graph


def grown(web, rule):
    growth = Growth(web, rule)
    top = growth.knot_at(0, rule.begun(web))
    return least_graph(growth.amount, growth.rows, top)


class Growth:
    """The rows of a graph while it grows, and the knots that they are, by number of tie and state."""

    def __init__(self, web, rule):
        self.web = web
        self.rule = rule
        self.amount = len(web.ties())
        self.behind = [points_behind(web, number) for number in range(self.amount + 1)]
        self.rows = []
        self.known = {}

    def knot_at(self, number, reached):
        """The knot of those sets of ties from this number on that fit when put to what has led to the state."""
        state = self.past_points(number, reached)
        if state is None:
            return 0
        if number == self.amount:
            return 1 if self.rule.fulfilled(self.web, state) else 0
        # Like states have like sets from there on: so each is gone on from once, whatever has led to it.
        if (number, state) not in self.known:
            without = self.knot_at(number + 1, self.rule.left(self.web, state, number))
            having = self.knot_at(number + 1, self.rule.taken(self.web, state, number))
            self.rows.append((number, without, having))
            self.known[(number, state)] = len(self.rows) + 1
        return self.known[(number, state)]

    def past_points(self, number, reached):
        state = reached
        for point in self.behind[number]:
            if state is not None:
                state = self.rule.passed(self.web, state, point)
        return state


def points_behind(web, number):
    """The points whose last tie is the one ahead of this number; at 0 those without ties."""
    return [point for point in range(web.size()) if max([-1] + web.at(point)) == number - 1]
