"""Counting: how many sets a sieve has, of which sizes and with which ties, and the so-many-eth of them."""

from frontways.errors import NoNumber
from frontways.sieves import has_set


def count_of(sieve):
    return knot_counts(sieve)[sieve.top()]


def knot_counts(sieve):
    counts = [0, 1]
    for row in sieve.knots():
        counts.append(counts[row[1]] + counts[row[2]])
    return counts


def nth_set(sieve, k):
    rows = sieve.knots()
    counts = knot_counts(sieve)
    knot = sieve.top()
    many = counts[knot]
    if k < 0 or k >= many:
        raise NoNumber(f"of {many} sets, numbered from 0, none has the number {k}")
    some = ()
    ahead = k
    while knot > 1:
        row = rows[knot - 2]
        # In order all sets of the without stand ahead of those with the tie.
        if ahead < counts[row[1]]:
            knot = row[1]
        else:
            ahead = ahead - counts[row[1]]
            some = some + (row[0],)
            knot = row[2]
    return some


def number_of(sieve, some):
    if not has_set(sieve, some):
        return None
    rows = sieve.knots()
    counts = knot_counts(sieve)
    knot = sieve.top()
    ahead = 0
    while knot > 1:
        row = rows[knot - 2]
        if row[0] in some:
            ahead = ahead + counts[row[1]]
            knot = row[2]
        else:
            knot = row[1]
    return ahead


def size_counts(sieve):
    n = sieve.many()
    counts = [[0] * (n + 1), [1] + [0] * n]
    for row in sieve.knots():
        # The tie put in makes each set greater by one; none of n ties is there to fall off at the end.
        greater = [0] + counts[row[2]]
        counts.append([without + having for without, having in zip(counts[row[1]], greater)])
    return counts[sieve.top()]


def tie_shares(sieve):
    n = sieve.many()
    counts = knot_counts(sieve)
    shares = [[0] * n, [0] * n]
    for row in sieve.knots():
        both = [without + having for without, having in zip(shares[row[1]], shares[row[2]])]
        both[row[0]] = counts[row[2]]
        shares.append(both)
    return shares[sieve.top()]
