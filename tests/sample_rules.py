"""Rules and webs that the tests grow sieves of, and what the document says of the rules, worked out a second time."""

from functools import lru_cache
from itertools import permutations

from frontways.covers import Covers
from frontways.crowds import Crowds
from frontways.pairs import Pairs
from frontways.ways import Rings, Rounds, Ways
from frontways.woods import Trees, Woods
from sample_sieves import HUGE
from sample_webs import BIG_SAMPLES, SAMPLES, TWELVE_TIES, all_webs_of, hang_together

CUBE = [(a, b) for a in range(8) for b in range(a + 1, 8) if a ^ b in (1, 2, 4)]

# Of twelve ties: one part, loose points, two parts, ties that lie near one another far apart in order.
TWELVES = [
    (7, TWELVE_TIES),
    (8, CUBE),
    (10, TWELVE_TIES),
    (10, [(k, (k + 1) % 10) for k in (0, 5, 1, 6, 2, 7, 3, 8, 4, 9)] + [(0, 5), (7, 2)]),
    (9, [(0, 1), (5, 6), (1, 2), (6, 7), (2, 0), (7, 5), (2, 3), (7, 8), (3, 4), (8, 6), (4, 0), (3, 1)]),
]

# Rings that meet in a point, rings side by side, a ring with a tie across, ties that lead nowhere.
RING_WEBS = [
    (3, [(0, 1), (1, 2), (0, 2)]),
    (5, [(0, 1), (1, 2), (2, 0), (2, 3), (3, 4), (4, 2)]),
    (7, [(0, 1), (4, 5), (1, 2), (5, 6), (2, 0), (6, 4), (2, 3)]),
    (5, [(0, 1), (1, 2), (2, 3), (3, 4), (4, 0), (0, 2)]),
    (6, [(0, 1), (1, 2), (2, 0), (3, 4), (4, 5)]),
    (3, [(0, 2), (2, 1)]),
]

SMALL_WEBS = [(points, ties) for points in range(1, 5) for ties in all_webs_of(points)]
WEBS = SAMPLES + RING_WEBS + BIG_SAMPLES + TWELVES


def ends_in(points):
    """Of a small web all that a way can lead between, of a greater one some."""
    if points <= 4:
        return list(permutations(range(points), 2))
    return [(0, points - 1), (points // 2, 1)]


def bounds_in(points):
    """Of crowds: any, none but of one point, few points, as many as two parts have, those no web has."""
    return [(1, HUGE), (1, 1), (2, 3), ((points + 1) // 2, points), (points + 1, HUGE)]


def rules_for(points):
    """Each sort of rule, as a way to make it: so that a test can have it made anew."""
    plain = [("rings", Rings), ("rounds", Rounds), ("woods", Woods), ("trees", Trees), ("pairs", Pairs)]
    more = [("full", lambda: Pairs(True)), ("covers", Covers)]
    ways = [(("ways", a, b), lambda a=a, b=b: Ways(a, b)) for a, b in ends_in(points)]
    crowds = [(("crowds", low, high), lambda low=low, high=high: Crowds(low, high)) for low, high in bounds_in(points)]
    return plain + more + ways + crowds


def walks(ties, came_to, goal):
    """The sets of ties of all walks on from the last of the points that comes to none of them again, to the goal."""
    found = set()
    last = came_to[-1]
    for number, tie in enumerate(ties):
        if last in tie:
            there = tie[1] if tie[0] == last else tie[0]
            if there == goal:
                found.add(frozenset([number]))
            elif there not in came_to:
                found |= {rest | {number} for rest in walks(ties, came_to + [there], goal)}
    return found


def rising(found):
    return {tuple(sorted(some)) for some in found}


def ways_by_walk(ties, a, b):
    return rising(walks(ties, [a], b))


def rings_by_walk(points, ties):
    """Walks that come back to where they began; over one tie there and back isn't one."""
    return {some for point in range(points) for some in rising(walks(ties, [point], point)) if len(some) > 2}


def rounds_by_walk(points, ties):
    return {some for some in rings_by_walk(points, ties) if {end for k in some for end in ties[k]} == set(range(points))}


def has_ring(ties, some):
    """Whether anything is left of the set when time and again a tie is taken off that leads to nothing further."""
    left = list(some)
    while True:
        ends = [end for number in left for end in ties[number]]
        kept = [number for number in left if min(ends.count(end) for end in ties[number]) > 1]
        if kept == left:
            return left != []
        left = kept


def all_hang_together(points, ties, some):
    return all(hang_together(ties, some, 0, point) for point in range(points))


@lru_cache(maxsize=20000)
def marks_by_walk(points, ties, some):
    """For each point the one from which a walk over ties of the set first came to it."""
    marks = {}
    for point in range(points):
        waiting = [point]
        while waiting:
            here = waiting.pop()
            if here not in marks:
                marks[here] = point
                waiting += [end for number in some if here in ties[number] for end in ties[number]]
    return [marks[point] for point in range(points)]


def is_crowds(points, ties, some, low, high):
    marks = marks_by_walk(points, tuple(ties), some)
    left_out = [tie for number, tie in enumerate(ties) if number not in some]
    if any(marks[a] == marks[b] for a, b in left_out):
        return False
    return all(low <= marks.count(mark) <= high for mark in marks)


def counts_by_hand(points, ties, some):
    ends = [end for number in some for end in ties[number]]
    return [ends.count(point) for point in range(points)]


def fits_by_words(points, ties, name, sets):
    """Of the sets those that fit the rule of this name."""
    if name == "rings":
        return rings_by_walk(points, ties)
    if name == "rounds":
        return rounds_by_walk(points, ties)
    if name[0] == "ways":
        return ways_by_walk(ties, name[1], name[2])
    return {some for some in sets if set_fits_by_words(points, ties, name, some)}


def set_fits_by_words(points, ties, name, some):
    if name == "woods":
        return not has_ring(ties, some)
    if name == "trees":
        return not has_ring(ties, some) and all_hang_together(points, ties, some)
    if name[0] == "crowds":
        return is_crowds(points, ties, some, name[1], name[2])
    counts = counts_by_hand(points, ties, some)
    return {"pairs": max(counts) < 2, "full": set(counts) == {1}, "covers": 0 not in counts}[name]
