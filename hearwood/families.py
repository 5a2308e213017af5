"""Families: lists that tell for each teller from whom that one heard the tale."""

from hearwood.errors import NoFamily


# A list that is asked about may hold None or any whole number, so what
# `Book.cost` can not take or would refuse is sorted out first.
def has_hearing(book, one, other):
    if one is None or one == other:
        return False
    if one < 0 or one >= book.many():
        return False
    return book.cost(one, other) is not None


def comes_to_first(family, teller):
    # A way that is no ring meets each teller at most once, so as many looks
    # as there are tellers are enough.
    at = teller
    for look in range(len(family)):
        if at == 0:
            return True
        at = family[at]
    return False


def is_family(book, family):
    if len(family) != book.many() or family[0] is not None:
        return False
    others = list(range(1, len(family)))
    if not all([has_hearing(book, family[other], other) for other in others]):
        return False
    return all([comes_to_first(family, other) for other in others])


def worth(book, family):
    if not is_family(book, family):
        raise NoFamily("the list is no family of this book")
    return sum([book.cost(family[other], other) for other in range(1, len(family))])
