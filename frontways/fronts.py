"""Fronts: the points between the ties below a number and those from it on; orders of ties."""

from frontways.errors import NoOrder, TooMany
from frontways.webs import Web, ties_within

MOST_TIES_ORDERED = 10


def front_at(web, k):
    return [point for point in range(web.size()) if lies_across(web.at(point), k)]


def lies_across(numbers, k):
    # The numbers rise, so the first and the last of them decide.
    return numbers != [] and numbers[0] < k and k <= numbers[-1]


def width_of(web):
    return max([len(front_at(web, k)) for k in range(len(web.ties()) + 1)])


def reordered(web, order):
    ties = web.ties()
    if sorted(order) != list(range(len(ties))):
        raise NoOrder(f"{order} has not the number of each tie just once")
    return Web(web.size(), [ties[number] for number in order])


def narrow_order(web):
    many = len(web.ties())
    if many > MOST_TIES_ORDERED:
        raise TooMany(f"an order is told of at most {MOST_TIES_ORDERED} ties, not of {many}")
    points = [web.at(point) for point in range(web.size())]
    # The front behind some ties is the same in whichever order these came:
    # so of all their orders one that is narrow is enough to go on from.
    narrow = {(): (0, ())}
    for step in range(many):
        narrow = one_tie_on(points, many, narrow)
    return list(narrow[tuple(range(many))][1])


def one_tie_on(points, many, narrow):
    further = {}
    for some, told in narrow.items():
        width = max(told[0], front_behind(points, some))
        for number in range(many):
            if number not in some:
                keep_narrower(further, some + (number,), (width, told[1] + (number,)))
    return further


def front_behind(points, some):
    return len([numbers for numbers in points if 0 < len(ties_within(numbers, some)) < len(numbers)])


def keep_narrower(further, ties, offered):
    some = tuple(sorted(ties))
    further[some] = min(further.get(some, offered), offered)
