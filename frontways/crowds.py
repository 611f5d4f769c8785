"""Crowds: sharings of a web's points into parts of so many points each, with all ties within each part."""

from frontways.errors import BadRule
from frontways.rules import Rule
from frontways.webs import part_heads, parts_as_one, points_under, web_parts
from frontways.woods import heads_without


class Crowds(Rule):
    """A state is three tuples: heads, sizes and apart.

    Of each point its part's head, the least point of the part that isn't passed yet; of each point how many points
    its part has, passed ones too (None and 0 of a passed point itself); and, as pairs of heads, which two parts
    can't become one, since a tie between them was left out.
    """

    def __init__(self, low, high):
        if low < 1:
            raise BadRule(f"a crowd has at least 1 point, not at least {low}")
        if high < low:
            raise BadRule(f"a crowd has no less than {low} points, and so not at most {high}")
        self.low = low
        self.high = high

    def fits(self, web, some):
        suiting = [self.low <= len(part) <= self.high for part in web_parts(web, some)]
        return all(suiting) and has_all_within(web, some)

    def begun(self, web):
        return (tuple(range(web.size())), (1,) * web.size(), ())

    def taken(self, web, state, number):
        heads = state[0]
        sizes = state[1]
        apart = state[2]
        pair = heads_of(heads, web.ties()[number])
        if pair[0] == pair[1]:
            return state
        size = sizes[pair[0]] + sizes[pair[1]]
        if pair in apart or size > self.high:
            return None
        greater = [size if head in pair else before for head, before in zip(heads, sizes)]
        return (tuple(parts_as_one(heads, pair[0], pair[1])), tuple(greater), renamed(apart, pair[1], pair[0]))

    def left(self, web, state, number):
        pair = heads_of(state[0], web.ties()[number])
        if pair[0] == pair[1]:
            return None
        return (state[0], state[1], tuple(sorted(set(state[2] + (pair,)))))

    def passed(self, web, state, point):
        heads = state[0]
        sizes = state[1]
        apart = state[2]
        rest = [other for other in points_under(heads, heads[point]) if other != point]
        # The last point of its part that may get ties: with it behind, the part gets no more points.
        if rest == [] and sizes[point] < self.low:
            return None
        coming = [0 if other == point else size for other, size in enumerate(sizes)]
        return (heads_without(heads, point), tuple(coming), apart_without(apart, point, rest))

    def fulfilled(self, web, state):
        return True


def has_all_within(web, some):
    heads = part_heads(web, some)
    within = [number for number, tie in enumerate(web.ties()) if heads[tie[0]] == heads[tie[1]]]
    return all([number in some for number in within])


def heads_of(heads, tie):
    return tuple(sorted([heads[point] for point in tie]))


def apart_without(apart, point, rest):
    if rest == []:
        return tuple([pair for pair in apart if point not in pair])
    # Where the point was its part's head the least of the rest is so now; else no pair has it.
    return renamed(apart, point, rest[0])


def renamed(apart, old, new):
    return tuple(sorted(set([pair_renamed(pair, old, new) for pair in apart])))


def pair_renamed(pair, old, new):
    return tuple(sorted([new if head == old else head for head in pair]))
