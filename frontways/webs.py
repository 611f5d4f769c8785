"""Webs: points, ties between two of them, and what a set of ties makes of the points."""

from frontways.errors import BadTie, TooMany, Twice

MOST_POINTS = 10
MOST_TIES = 12


class Web:
    def __init__(self, many, ties):
        refuse_amounts(many, len(ties))
        # Tuples all through: what is handed in or told may be altered later, the web may not.
        self.amount = many
        self.joints = checked_ties(many, ties)

    def size(self):
        return self.amount

    def ties(self):
        return list(self.joints)

    def at(self, point):
        return [number for number, tie in enumerate(self.joints) if point in tie]


def refuse_amounts(points, ties):
    if points < 1 or points > MOST_POINTS:
        raise TooMany(f"a web has from 1 to {MOST_POINTS} points, not {points}")
    if ties > MOST_TIES:
        raise TooMany(f"a web has at most {MOST_TIES} ties, not {ties}")


def checked_ties(many, ties):
    checked = []
    for handed in ties:
        tie = tuple(sorted(handed))
        refuse_points(many, tie)
        if tie in checked:
            raise Twice(f"an earlier tie has the points of {tie}, too")
        checked.append(tie)
    return tuple(checked)


def refuse_points(many, tie):
    if tie[0] < 0 or tie[1] >= many:
        raise BadTie(f"not both of {tie} are points of the web")
    if tie[0] == tie[1]:
        raise BadTie(f"both points of {tie} are the same")


def web_parts(web, some):
    heads = part_heads(web, some)
    return [points_under(heads, head) for head in range(web.size()) if heads[head] == head]


def part_heads(web, some):
    # A part goes by its least point: so the heads, rising, have the parts in the order of their first points.
    heads = list(range(web.size()))
    for number, tie in enumerate(web.ties()):
        if number in some:
            heads = parts_as_one(heads, heads[tie[0]], heads[tie[1]])
    return heads


def parts_as_one(heads, one, other):
    least = min(one, other)
    return [least if head in (one, other) else head for head in heads]


def points_under(heads, head):
    return [point for point, its_head in enumerate(heads) if its_head == head]


def tie_counts(web, some):
    return [len(ties_within(web.at(point), some)) for point in range(web.size())]


def ties_within(numbers, some):
    return [number for number in numbers if number in some]
