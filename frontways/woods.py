"""Woods, in which no ring lies, and trees, by which all points hang together."""

from frontways.rules import Rule
from frontways.webs import parts_as_one, points_under, web_parts


class Woods(Rule):
    """A state tells of each point the least one of its part that isn't passed yet; None of a passed one."""

    def fits(self, web, some):
        return is_wood(web, some)

    def begun(self, web):
        return tuple(range(web.size()))

    def taken(self, web, state, number):
        tie = web.ties()[number]
        if state[tie[0]] == state[tie[1]]:
            return None
        return tuple(parts_as_one(state, state[tie[0]], state[tie[1]]))

    def passed(self, web, state, point):
        return heads_without(state, point)

    def fulfilled(self, web, state):
        return True


class Trees(Woods):
    def fits(self, web, some):
        return is_wood(web, some) and len(web_parts(web, some)) == 1

    def passed(self, web, state, point):
        coming = [head for head in state if head is not None]
        # The last point of its part that may get ties: with it behind, nothing ties the others to this part.
        if len(coming) > 1 and points_under(state, state[point]) == [point]:
            return None
        return heads_without(state, point)


def is_wood(web, some):
    # Each tie makes one part of two, but where it closes a ring.
    return len(web_parts(web, some)) + len(some) == web.size()


def heads_without(state, point):
    rest = [other for other in points_under(state, state[point]) if other != point]
    heads = [rest[0] if other in rest else head for other, head in enumerate(state)]
    heads[point] = None
    return tuple(heads)
