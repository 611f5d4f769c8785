"""Sieves: graphs of knots that lead just the sets of a sort to yes; their sets, told in order."""


class Sieve:
    """Made by those functions alone that see to it that its knots are least and numbered in their order."""

    def __init__(self, n, rows, head):
        # Tuples all through: what is told may be altered later, the sieve may not.
        self.amount = n
        self.rows = tuple(rows)
        self.head = head

    def many(self):
        return self.amount

    def knots(self):
        return list(self.rows)

    def top(self):
        return self.head


def sets_of(sieve):
    sets = [[], [()]]
    for row in sieve.knots():
        # No tie beneath a knot is less than its own: so what lacks that one stands ahead.
        sets.append(sets[row[1]] + [(row[0],) + some for some in sets[row[2]]])
    return sets[sieve.top()]


def has_set(sieve, some):
    rows = sieve.knots()
    knot = sieve.top()
    met = 0
    while knot > 1:
        row = rows[knot - 2]
        if met < len(some) and some[met] == row[0]:
            met = met + 1
            knot = row[2]
        else:
            knot = row[1]
    # Ties rise on the way down: so a list that isn't rising, or has what is no tie, is never met to its end.
    return knot == 1 and met == len(some)
