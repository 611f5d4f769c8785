"""Ways between two points, rings, and rings that come to every point."""

from frontways.errors import BadRule
from frontways.rules import Rule
from frontways.webs import tie_counts, web_parts

# The state when the one strand is done: no tie may come to it.
DONE = ()


class Strands(Rule):
    """Rules of sets that make one strand, a ring or a way.

    A state tells of each point the other end of the strand of which it is an end, the point itself where it has no
    tie, None where it can't have any more: two ties, or it is passed.
    """

    def begun(self, web):
        return tuple(range(web.size()))

    def taken(self, web, state, number):
        tie = web.ties()[number]
        if state == DONE or state[tie[0]] is None or state[tie[1]] is None:
            return None
        if state[tie[0]] == tie[1]:
            return self.closed(state, tie)
        return strands_tied(state, tie)

    def closed(self, state, tie):
        others = [point for point in range(len(state)) if point not in tie]
        if all([self.may_stay(state, point) for point in others]):
            return DONE
        return None

    def may_stay(self, state, point):
        return state[point] in (None, point)

    def passed(self, web, state, point):
        if state == DONE:
            return state
        if self.may_stay(state, point):
            return tuple([None if other == point else end for other, end in enumerate(state)])
        return None

    def fulfilled(self, web, state):
        return state == DONE


class Ways(Strands):
    def __init__(self, a, b):
        self.ends = (a, b)

    def fits(self, web, some):
        self.refuse_web(web)
        counts = tie_counts(web, some)
        between = [count for point, count in enumerate(counts) if point not in self.ends]
        return [counts[end] for end in self.ends] == [1, 1] and none_or_two(between) and is_one_piece(web, some)

    def refuse_web(self, web):
        for end in self.ends:
            if end < 0 or end >= web.size():
                raise BadRule(f"{end} is no point of the web")
        if self.ends[0] == self.ends[1]:
            raise BadRule("a way leads from one point to another")

    def begun(self, web):
        self.refuse_web(web)
        # As if a tie between both were there: with it a way is a ring, and closed as one.
        return strands_tied(tuple(range(web.size())), self.ends)


class Rings(Strands):
    def fits(self, web, some):
        return none_or_two(tie_counts(web, some)) and is_one_piece(web, some)


class Rounds(Strands):
    def fits(self, web, some):
        return tie_counts(web, some) == [2] * web.size() and is_one_piece(web, some)

    def may_stay(self, state, point):
        return state[point] is None


def strands_tied(state, tie):
    ends = list(state)
    one = state[tie[0]]
    other = state[tie[1]]
    # First both points of the tie are full; where one has had no tie it is an end itself, and put back as such.
    ends[tie[0]] = None
    ends[tie[1]] = None
    ends[one] = other
    ends[other] = one
    return tuple(ends)


def none_or_two(counts):
    return all([count in (0, 2) for count in counts])


def is_one_piece(web, some):
    # A part of one point alone is a point without ties.
    return len([part for part in web_parts(web, some) if len(part) > 1]) == 1
