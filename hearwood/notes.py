"""Notes: a book written as a text, and read from it."""

from hearwood.book import Book
from hearwood.errors import Alone, BadText, First, NoBook, NoTeller

FIGURES = "0123456789"
MOST_COST = 1000000
MOST_FIGURES = 7


def shown(book):
    many = book.many()
    lines = [f"{one} to {other} costs {cost}" for one, other, cost in book.hearings()]
    return "\n".join([f"tellers {many}"] + lines)


# `int` would take signs, blanks and underscores too, and fails on some
# thousand figures.
def number(word):
    if not 1 <= len(word) <= MOST_FIGURES or not all([sign in FIGURES for sign in word]):
        raise BadText("a number is missing, too long or not in figures")
    return int(word)


def words_of(line, many):
    words = line.split(" ")
    if len(words) != many:
        raise BadText("a line has too many or too few words")
    return words


def let_line(book, line):
    words = words_of(line, 5)
    cost = number(words[4])
    if cost > MOST_COST:
        raise BadText("a cost is too high")
    book.let(number(words[0]), number(words[2]), cost)


def book_of(text):
    lines = text.split("\n")
    book = Book(number(words_of(lines[0], 2)[1]))
    for line in lines[1:]:
        let_line(book, line)
    return book


# Only the numbers are looked at here. Whether the words between them, the
# noughts ahead and the order of the lines are right shows when the book is
# written again.
def read(text):
    try:
        book = book_of(text)
    except (NoBook, NoTeller, Alone, First) as e:
        raise BadText("the text tells of no book that can be") from e
    if shown(book) != text:
        raise BadText("the text is not written as a book is")
    return book
