"""Parting: of two knots of a sieve a set that just one of both has."""

from frontways.errors import NoKnot


def parted_by(sieve, first, second):
    rows = sieve.knots()
    for knot in (first, second):
        if knot < 0 or knot > len(rows) + 1:
            raise NoKnot(f"{knot} is no knot of the sieve")
    if first == second:
        return None
    return unlike_parted(sieve.many(), rows, first, second)


def unlike_parted(n, rows, first, second):
    one = least_tie(n, rows, first)
    other = least_tie(n, rows, second)
    if one == other:
        return same_tie_parted(n, rows, rows[first - 2], rows[second - 2])
    # No with is 0: so the knot of the lesser tie has a set with this tie, and the other one has none.
    if one < other:
        return (0, set_by_withs(rows, first))
    return (1, set_by_withs(rows, second))


def same_tie_parted(n, rows, one, other):
    if one[1] != other[1]:
        return unlike_parted(n, rows, one[1], other[1])
    # No two knots are alike: so where the withouts are the same the withs aren't.
    parted = unlike_parted(n, rows, one[2], other[2])
    return (parted[0], (one[0],) + parted[1])


def least_tie(n, rows, knot):
    # As if () had a tie beyond all, and having no sets one beyond that: so 1 parts from 0 as any knot from a later one.
    if knot < 2:
        return n + 1 - knot
    return rows[knot - 2][0]


def set_by_withs(rows, knot):
    some = ()
    while knot > 1:
        some = some + (rows[knot - 2][0],)
        knot = rows[knot - 2][2]
    return some
