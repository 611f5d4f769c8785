"""Lists of sets that the tests make sieves of, and what the document says of sieves, worked out here a second time."""

from functools import cmp_to_key
from itertools import combinations

from frontways.errors import FrontError

HUGE = 10 ** 60 - 1


def all_sets_below(n):
    return [some for size in range(n + 1) for some in combinations(range(n), size)]


def every_list_below(n):
    """Each choice of sets of ties below n, as a list."""
    sets = all_sets_below(n)
    return [[some for k, some in enumerate(sets) if choice >> k & 1] for choice in range(1 << len(sets))]


# (n, sets): none, one, several; few and many ties; sets in the order of [8] and not.
SAMPLES = [
    (0, []),
    (0, [()]),
    (1, [(0,)]),
    (2, [(1,), (0,)]),
    (3, [(0, 2), (0,), (1, 2), (1,), (2,), ()]),
    (4, all_sets_below(4)),
    (5, [some for some in all_sets_below(5) if len(some) == 2]),
    (5, [some for some in all_sets_below(5) if len(some) % 2 == 0]),
    (6, [(0, 1, 2), (3, 4, 5), (0, 2, 4), (1, 3, 5), (0, 5), ()]),
    (7, [some for some in all_sets_below(7) if sum(some) == 9]),
    (12, []),
    (12, [()]),
    (12, [(11,)]),
    (12, [tuple(range(12))]),
    (12, [(k,) for k in range(12)]),
    (12, list(combinations(range(12), 11))),
    (12, [tuple(k for k in range(12) if number >> k & 1) for number in range(7, 4000, 71)]),
    (12, [(0, 11), (3, 7, 9), (2, 5), (1, 4, 6, 8, 10), (3, 7, 10), (0, 5, 11), (5, 11), (2, 9)]),
]


def is_ahead(one, other):
    """[8]: of two unlike sets the one is ahead that lacks the least tie that is in just one of both."""
    return min(set(one) ^ set(other)) not in one


def in_order(sets):
    """Each of the sets once, in the order of [8]."""
    unlike = list({tuple(some) for some in sets})
    return sorted(unlike, key=cmp_to_key(lambda one, other: -1 if is_ahead(one, other) else 1))


def sets_by_words(rows):
    """[9]: for each knot from 0 on its sets, found as the document says them."""
    found = [set(), {()}]
    for tie, without, having in rows:
        found.append(found[without] | {tuple(sorted(some + (tie,))) for some in found[having]})
    return found


def remainders(sets):
    """All that is left of the sets, ties being chosen or left out from the least on, but for nothing and () alone."""
    found = set()
    waiting = [frozenset(sets)]
    while waiting:
        some_sets = waiting.pop()
        if some_sets not in found and any(some_sets):
            found.add(some_sets)
            tie = min(min(some) for some in some_sets if some)
            waiting.append(frozenset(some for some in some_sets if tie not in some))
            waiting.append(frozenset(some[1:] for some in some_sets if tie in some))
    return found


def told(sieve):
    return (sieve.many(), sieve.knots(), sieve.top())


def refused(case, kind, ask, *handed):
    """Holds that the asked is refused with just this class."""
    with case.subTest(kind=kind, handed=handed):
        with case.assertRaises(FrontError) as caught:
            ask(*handed)
        case.assertIs(kind, type(caught.exception))
        case.assertIsInstance(caught.exception, ValueError)


def held_to_words(case, n, sets, sieve):
    """Holds a sieve of n and the sets against [9] and [10], word by word."""
    rows = sieve.knots()
    top = sieve.top()
    numbers = range(2, len(rows) + 2)
    case.assertEqual(n, sieve.many())
    case.assertIs(list, type(rows))
    case.assertTrue(0 <= top < len(rows) + 2)
    for number, row in zip(numbers, rows):
        case.assertIs(tuple, type(row))
        case.assertEqual([int, int, int], [type(part) for part in row])
        tie, without, having = row
        case.assertTrue(0 <= tie < n, rows)
        for lower in (without, having):
            case.assertTrue(0 <= lower < number, rows)
            case.assertTrue(lower < 2 or rows[lower - 2][0] > tie, rows)
        case.assertNotEqual(0, having, rows)
        led_to = [lower for row in rows for lower in row[1:]]
        case.assertTrue(number == top or number in led_to, (rows, top))
    case.assertEqual(len(rows), len(set(rows)), rows)
    case.assertEqual(sorted(rows, key=lambda row: (-row[0], row[1], row[2])), rows)
    case.assertEqual({tuple(some) for some in sets}, sets_by_words(rows)[top])
