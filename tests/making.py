"""What several tests need: books made in one go, all families of a book by
trying them one by one, and numbers far out."""

import itertools
import random

from hearwood.book import Book

FAR = 12345678901234567890
# Python refuses to write a number of so many figures as a text.
ENDLESS = 10 ** 5000


def made(many, hearings):
    book = Book(many)
    for one, other, cost in hearings:
        book.let(one, other, cost)
    return book


def full(many):
    """Every hearing that can be, each with a cost of its own."""
    return made(many, [
        (one, other, 100 * one + other)
        for one in range(many)
        for other in range(1, many)
        if one != other
    ])


def state(book):
    return book.many(), book.hearings()


def leads_to_first(family, teller):
    seen = []
    while teller != 0 and teller not in seen:
        seen.append(teller)
        teller = family[teller]
    return teller == 0


def all_families(book):
    """Every family of the book with its worth, in the order of point 8."""
    into = [[] for teller in range(book.many())]
    for one, other, cost in book.hearings():
        into[other].append((one, cost))
    found = []
    for choice in itertools.product(*into[1:]):
        family = [None] + [one for one, cost in choice]
        if all(leads_to_first(family, teller) for teller in range(1, book.many())):
            found.append((family, sum(cost for one, cost in choice)))
    return found


def every_book(many, costs):
    """Each book of so many tellers whose hearings have these costs; None is no hearing."""
    pairs = [(one, other) for one in range(many) for other in range(1, many) if one != other]
    for choice in itertools.product(costs, repeat=len(pairs)):
        hearings = zip(pairs, choice)
        yield made(many, [(one, other, cost) for (one, other), cost in hearings if cost is not None])


def drawn_books(seed, many, how_many, share, costs):
    """Books with about this share, out of 10, of all hearings: the same ones for the same seed."""
    draw = random.Random(seed)
    for count in range(how_many):
        yield made(many, [
            (one, other, draw.choice(costs))
            for one in range(many)
            for other in range(1, many)
            if one != other and draw.randrange(10) < share
        ])


def sparse_books(seed, many, how_many, costs):
    """Books with two hearings to each teller, so that all families can be tried for 12 tellers too."""
    draw = random.Random(seed)
    for count in range(how_many):
        yield made(many, [
            (one, other, draw.choice(costs))
            for other in range(1, many)
            for one in draw.sample([teller for teller in range(many) if teller != other], 2)
        ])


# (what it is, the tellers, the hearings, the least worth)
RINGS = [
    ("a ring of two", 3, [(0, 1, 50), (0, 2, 60), (1, 2, 3), (2, 1, 4)], 50 + 3),
    (
        "two rings apart",
        5,
        [(0, 1, 50), (0, 3, 70), (1, 2, 3), (2, 1, 4), (3, 4, 5), (4, 3, 6), (2, 3, 90)],
        50 + 3 + 70 + 5,
    ),
    (
        "a ring that is entered from another one",
        5,
        [(0, 1, 50), (1, 2, 3), (2, 1, 4), (3, 4, 5), (4, 3, 6), (2, 4, 90), (4, 1, 1)],
        50 + 3 + 90 + 6,
    ),
    (
        "one ring within another",
        4,
        [(1, 2, 1), (2, 1, 1), (2, 3, 10), (3, 1, 20), (0, 1, 100), (0, 2, 101), (0, 3, 105)],
        100 + 1 + 10,
    ),
    (
        "the outer ring entered outside the inner one",
        4,
        [(1, 2, 1), (2, 1, 1), (2, 3, 10), (3, 1, 20), (0, 1, 200), (0, 3, 105)],
        105 + 20 + 1,
    ),
    (
        "rings of cost 0, one within another",
        5,
        [(1, 2, 0), (2, 1, 0), (2, 3, 0), (3, 1, 0), (3, 4, 0), (4, 2, 0), (0, 4, 7), (0, 3, 7), (0, 1, 8)],
        7,
    ),
    (
        "rings within rings, twelve tellers",
        12,
        [(0, 11, 1000000)]
        + [(one, other, 2 ** max(one, other)) for one in range(1, 12) for other in range(1, 12) if one != other],
        # From 0 to 11, from there to 1, from there to each other one.
        1000000 + 2 ** 11 + sum(2 ** other for other in range(2, 11)),
    ),
]
