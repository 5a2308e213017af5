"""What several tests need: books made in one go, and numbers far out."""

from hearwood.book import Book

FAR = 12345678901234567890
# Python refuses to write a number of so many figures as a text.
ENDLESS = 10 ** 5000


def made(many, hearings):
    book = Book(many)
    for one, other, cost in hearings:
        book.let(one, other, cost)
    return book


def full(many):
    """Every hearing that can be, each with a cost of its own."""
    return made(many, [
        (one, other, 100 * one + other)
        for one in range(many)
        for other in range(1, many)
        if one != other
    ])


def state(book):
    return book.many(), book.hearings()
