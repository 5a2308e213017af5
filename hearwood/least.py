"""Least families: their worth, the first of them, and the hearings that they have."""

from hearwood.errors import NoHearing
from hearwood.judging import priced


# The prices come to just the worth of a least family, so none is built here.
def least_worth(many, hearings):
    pricing = priced(many, hearings)
    if pricing.lonely is not None:
        return None
    return sum([price for group, price in pricing.prices])


# Every family has just one hearing to each teller but 0. So with no other one
# left to this teller, the families are those that have this one.
def with_only(hearings, one, other):
    return [hearing for hearing in hearings if hearing[1] != other or hearing[0] == one]


def least_with(book, one, other):
    return least_worth(book.many(), with_only(book.hearings(), one, other))


def least(book):
    return least_worth(book.many(), book.hearings())


# The hearings come in the order of their pairs: the least teller is tried first.
def settled(many, hearings, teller, goal):
    for one, other, cost in hearings:
        if other == teller:
            left = with_only(hearings, one, teller)
            if least_worth(many, left) == goal:
                return left
    return hearings


def first(book):
    many = book.many()
    goal = least(book)
    if goal is None:
        return None
    hearings = book.hearings()
    for teller in range(1, many):
        hearings = settled(many, hearings, teller, goal)
    family = [None] * many
    for one, other, cost in hearings:
        family[other] = one
    return family


def lack(book, one, other):
    if book.cost(one, other) is None:
        raise NoHearing("there is no such hearing")
    having = least_with(book, one, other)
    if having is None:
        return None
    return having - least(book)


def free(book):
    goal = least(book)
    if goal is None:
        return []
    return [(one, other) for one, other, cost in book.hearings() if least_with(book, one, other) == goal]


# Every least family has one of the free hearings to a teller, and each of them
# is had by some: so one that all have is the only one to its teller.
def bound(book):
    pairs = free(book)
    heard = [other for one, other in pairs]
    return [(one, other) for one, other in pairs if heard.count(other) == 1]
