"""Webs that the tests walk through, and what the document says of them, worked out here a second time."""

from itertools import combinations, permutations

FULL_FIVE = list(combinations(range(5), 2))
TWELVE_TIES = [(a, b) for a in range(3) for b in range(3, 7)]

# (how many points, ties): none, one, loose points, ways, rings, stars, several parts, ties not in sorted order.
SAMPLES = [
    (1, []),
    (4, []),
    (10, []),
    (2, [(0, 1)]),
    (5, [(3, 1)]),
    (4, [(0, 1), (1, 2), (2, 3)]),
    (4, [(0, 1), (2, 3), (1, 2)]),
    (5, [(4, 0), (0, 3), (3, 1), (1, 2), (2, 4)]),
    (5, [(2, 0), (2, 1), (2, 3), (2, 4)]),
    (6, [(0, 1), (3, 4), (1, 2), (4, 5), (2, 0), (5, 3)]),
    (7, [(6, 5), (0, 4), (5, 0), (2, 3)]),
    (4, [(2, 3), (0, 2), (1, 3), (0, 3), (0, 1), (1, 2)]),
    (10, [(9, 0), (8, 1), (7, 2), (6, 3), (5, 4)]),
]

BIG_SAMPLES = [
    (5, FULL_FIVE),
    (10, [(k, (k + 1) % 10) for k in range(10)]),
    (10, [(k, (k + 1) % 10) for k in (0, 5, 1, 6, 2, 7, 3, 8, 4, 9)]),
    (10, [(0, k) for k in range(1, 10)]),
    (7, [(0, 1), (2, 3), (4, 5), (1, 2), (3, 4), (5, 6), (6, 0), (0, 3), (1, 5), (2, 6)]),
    (6, [(0, 3), (1, 4), (2, 5), (0, 1), (3, 4), (1, 2), (4, 5), (0, 4), (1, 5), (2, 4)]),
]


def all_webs_of(points):
    """The ties of each web of so many points, in sorted order."""
    pairs = list(combinations(range(points), 2))
    return [list(some) for many in range(len(pairs) + 1) for some in combinations(pairs, many)]


def all_sets_of(many):
    return [some for size in range(many + 1) for some in combinations(range(many), size)]


def hang_together(ties, some, one, other):
    """Whether a walk over ties of the set leads from the one point to the other."""
    reached = [one]
    for point in reached:
        for number in some:
            if point in ties[number]:
                reached += [end for end in ties[number] if end not in reached]
    return other in reached


def front_of(points, ties, k):
    found = []
    for point in range(points):
        below = any(point in tie for tie in ties[:k])
        from_there = any(point in tie for tie in ties[k:])
        if below and from_there:
            found.append(point)
    return found


def width_by_hand(points, ties):
    return max(len(front_of(points, ties, k)) for k in range(len(ties) + 1))


def least_width_of_all_orders(points, ties):
    return min(width_by_hand(points, list(order)) for order in permutations(ties))


def least_width_by_limits(points, ties):
    """The same for greater webs: the least limit at which all ties can be laid with no front above it."""
    limit = 0
    while not can_be_laid(points, ties, limit):
        limit += 1
    return limit


def can_be_laid(points, ties, limit):
    seen = {frozenset()}
    waiting = [frozenset()]
    while waiting:
        laid = waiting.pop()
        if len(laid) == len(ties):
            return True
        for tie in ties:
            more = laid | {tie}
            if more not in seen and front_beside(points, ties, more) <= limit:
                seen.add(more)
                waiting.append(more)
    return False


def front_beside(points, ties, laid):
    kept = [tie for tie in ties if tie in laid]
    return len(front_of(points, kept + [tie for tie in ties if tie not in laid], len(kept)))
