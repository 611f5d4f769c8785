"""Making sieves: of a list of sets or of a greater graph, both by making a graph least."""

from frontways.errors import BadKnots, NoSet, TooMany
from frontways.sieves import Sieve

MOST_TIES = 12


def sieve_of(n, sets):
    refuse_amount(n)
    for some in sets:
        if not is_set_below(n, some):
            raise NoSet(f"{some} is no set of ties below {n}")
    rows = []
    top = knot_of(rows, sorted(set([tuple(some) for some in sets])))
    return least_graph(n, rows, top)


def refuse_amount(n):
    if n < 0 or n > MOST_TIES:
        raise TooMany(f"a sieve is of 0 to {MOST_TIES} ties, not of {n}")


def is_set_below(n, some):
    return list(some) == [tie for tie in range(n) if tie in some]


def knot_of(rows, sets):
    """The number of a knot that has these sets, each handed in once; it and those beneath it are put to the rows."""
    if sets == []:
        return 0
    if sets == [()]:
        return 1
    tie = min([some[0] for some in sets if some != ()])
    without = knot_of(rows, [some for some in sets if tie not in some])
    having = knot_of(rows, [some[1:] for some in sets if tie in some])
    rows.append((tie, without, having))
    return len(rows) + 1


def least_sieve(n, rows, top):
    refuse_amount(n)
    for number, row in enumerate(rows, start=2):
        if row[0] < 0 or row[0] >= n:
            raise BadKnots(f"the tie of knot {number} is none below {n}")
        refuse_lower(rows, number, row[1])
        refuse_lower(rows, number, row[2])
    if top < 0 or top > len(rows) + 1:
        raise BadKnots(f"the top {top} is no knot")
    return least_graph(n, rows, top)


def refuse_lower(rows, number, lower):
    if lower < 0 or lower >= number:
        raise BadKnots(f"knot {number} leads to {lower}, which is no knot of a lesser number")
    if lower > 1 and rows[lower - 2][0] <= rows[number - 2][0]:
        raise BadKnots(f"knot {number} leads to {lower}, whose tie isn't greater")


def least_graph(n, rows, top):
    """The sieve of the top's sets; the rows are such as least_sieve doesn't refuse."""
    reached = reached_knots(rows, top)
    numbers = {}
    # Where each knot's sets are found in the least graph: those of greater ties come first, as its numbers ask.
    places = {0: 0, 1: 1}
    for tie in range(n - 1, -1, -1):
        layer = [(knot, row_in_places(places, rows[knot - 2])) for knot in reached if rows[knot - 2][0] == tie]
        for row in sorted(set([row for knot, row in layer if row[2] != 0])):
            numbers[row] = len(numbers) + 2
        for knot, row in layer:
            # A row that got no number has a with of 0: its sets are those of its without.
            places[knot] = numbers.get(row, row[1])
    return Sieve(n, list(numbers), places[top])


def reached_knots(rows, top):
    reached = {top: True}
    # Each knot leads to lesser numbers alone: so on the way down it is known in time whether it is reached.
    for knot in range(top, 1, -1):
        if knot in reached:
            reached[rows[knot - 2][1]] = True
            reached[rows[knot - 2][2]] = True
    return [knot for knot in range(2, top + 1) if knot in reached]


def row_in_places(places, row):
    return (row[0], places[row[1]], places[row[2]])
