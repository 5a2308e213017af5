import unittest

from hearwood.book import Book
from hearwood.errors import Alone, First, NoHearing, NoTeller
from hearwood.families import is_family, worth
from hearwood.judging import judged
from hearwood.least import bound, first, free, lack, least
from making import (
    ENDLESS, FAR, RINGS, all_families, drawn_books, every_book, full, made, sparse_books, state,
)


def pairs_of(family):
    return [(one, other) for other, one in enumerate(family) if other != 0]


def tried(book):
    """What least, first, free, bound and the lack of each hearing are, by all families one by one."""
    families = all_families(book)
    pairs = [(one, other) for one, other, cost in book.hearings()]
    if not families:
        return None, None, [], [], {pair: None for pair in pairs}
    goal = min(value for family, value in families)
    # The families are in the order of point 8.
    leading = [family for family, value in families if value == goal]
    cheapest = {pair: None for pair in pairs}
    for family, value in families:
        for pair in pairs_of(family):
            if cheapest[pair] is None or value < cheapest[pair]:
                cheapest[pair] = value
    lacks = {pair: None if value is None else value - goal for pair, value in cheapest.items()}
    some = [pair for pair in pairs if any(pair in pairs_of(family) for family in leading)]
    every = [pair for pair in pairs if all(pair in pairs_of(family) for family in leading)]
    return goal, leading[0], some, every, lacks


def told(book):
    lacks = {(one, other): lack(book, one, other) for one, other, cost in book.hearings()}
    return least(book), first(book), free(book), bound(book), lacks


class Tried(unittest.TestCase):
    def check(self, books):
        for book in books:
            with self.subTest(many=book.many(), hearings=book.hearings()):
                before = state(book)
                self.assertEqual(told(book), tried(book))
                self.assertEqual(state(book), before)

    def test_one_teller(self):
        self.check([Book(1)])
        self.assertEqual(told(Book(1)), (0, [None], [], [], {}))

    def test_two_tellers(self):
        self.check([made(2, [(0, 1, cost)]) for cost in (0, 1, 1000000)])
        self.assertEqual(told(made(2, [(0, 1, 8)])), (8, [None, 0], [(0, 1)], [(0, 1)], {(0, 1): 0}))
        self.assertEqual(told(Book(2)), (None, None, [], [], {}))

    def test_every_book_of_three_tellers(self):
        self.check(every_book(3, (None, 0, 1, 2, 5)))

    def test_four_tellers_with_all_hearings(self):
        self.check(every_book(4, (1, 2)))

    def test_drawn_books_of_four_tellers(self):
        for share in (3, 5, 7, 10):
            self.check(drawn_books(share, 4, 100, share, (0, 1, 2)))
            self.check(drawn_books(share, 4, 50, share, (3, 10, 40, 1000000)))
            self.check(drawn_books(share, 4, 50, share, range(1000001)))

    def test_drawn_books_of_five_tellers(self):
        for share in (4, 7, 10):
            self.check(drawn_books(share, 5, 30, share, (0, 1, 2)))
            self.check(drawn_books(share, 5, 30, share, (1, 4, 5, 9)))
            self.check(drawn_books(share, 5, 30, share, range(1000001)))

    def test_drawn_books_of_six_tellers(self):
        for share in (4, 7):
            self.check(drawn_books(share, 6, 10, share, (0, 1, 2, 3)))
            self.check(drawn_books(share, 6, 10, share, range(1000001)))

    def test_twelve_tellers(self):
        self.check(sparse_books(1, 12, 10, (0, 1, 2)))
        self.check(sparse_books(2, 12, 10, range(1000001)))

    def test_rings(self):
        for name, many, hearings, value in RINGS:
            with self.subTest(name):
                self.assertEqual(least(made(many, hearings)), value)
        self.check([made(many, hearings) for name, many, hearings, value in RINGS if many < 12])

    def test_asked_again_behind_letting_and_banning(self):
        book = made(4, [(0, 1, 5), (1, 2, 5), (2, 3, 5), (0, 3, 9), (3, 2, 1)])
        self.check([book])
        for deed in (
            lambda: book.let(0, 2, 5),
            lambda: book.let(1, 3, 0),
            lambda: book.ban(0, 1),
            lambda: book.let(3, 1, 2),
            lambda: book.let(0, 2, 4),
            lambda: book.ban(0, 3),
            lambda: book.ban(0, 2),
            lambda: book.let(0, 1, 1000000),
        ):
            deed()
            self.check([book])


class Least(unittest.TestCase):
    def test_where_there_is_no_family(self):
        for many, hearings in (
            (2, []),
            (3, [(0, 1, 4)]),
            (3, [(1, 2, 4), (2, 1, 4)]),
            (4, [(0, 1, 4), (2, 3, 0), (3, 2, 0), (2, 1, 0)]),
            (12, [(k, k + 1, k) for k in range(1, 11)] + [(11, 1, 3)]),
            (12, []),
        ):
            with self.subTest(hearings):
                book = made(many, hearings)
                lacks = {(one, other): None for one, other, cost in hearings}
                self.assertEqual(told(book), (None, None, [], [], lacks))

    def test_the_first_of_several(self):
        for many, hearings, family in (
            (3, [(0, 1, 5), (0, 2, 5), (1, 2, 5), (2, 1, 5)], [None, 0, 0]),
            (3, [(0, 1, 5), (0, 2, 4), (1, 2, 4), (2, 1, 5)], [None, 0, 0]),
            # 1 from 0 would be ahead, but is no least family's.
            (3, [(0, 1, 9), (0, 2, 4), (1, 2, 4), (2, 1, 5)], [None, 2, 0]),
            # The first place goes ahead of all others.
            (4, [(0, 1, 3), (0, 2, 1), (2, 1, 3), (1, 3, 2), (2, 3, 2)], [None, 0, 0, 1]),
            (4, [(0, 1, 5), (2, 1, 1), (3, 1, 1), (0, 2, 1), (1, 3, 1), (0, 3, 1)], [None, 2, 0, 0]),
            # 2 from 1 would be ahead at its own place, but 1 goes ahead of it.
            (4, [(0, 1, 2), (2, 1, 2), (1, 2, 2), (3, 2, 2), (0, 3, 2), (0, 2, 3)], [None, 0, 1, 0]),
        ):
            with self.subTest(hearings):
                self.assertEqual(first(made(many, hearings)), family)

    def test_the_first_of_twelve_tellers_is_by_numbers(self):
        book = made(12, [(0, k, 1) for k in range(1, 11)] + [(k, 11, 6) for k in (2, 10)])
        self.assertEqual(first(book), [None] + [0] * 10 + [2])

    def test_twelve_tellers_with_all_hearings_of_one_cost(self):
        every = [(one, other) for one in range(12) for other in range(1, 12) if one != other]
        for cost in (0, 1, 1000000):
            with self.subTest(cost):
                book = made(12, [(one, other, cost) for one, other in every])
                self.assertEqual(least(book), 11 * cost)
                self.assertEqual(first(book), [None] + [0] * 11)
                self.assertEqual(free(book), every)
                self.assertEqual(bound(book), [])
                self.assertEqual({lack(book, one, other) for one, other in every}, {0})

    def test_twelve_tellers_with_all_hearings(self):
        book = full(12)
        self.assertEqual(least(book), sum(range(1, 12)))
        self.assertEqual(first(book), [None] + [0] * 11)
        self.assertEqual(free(book), [(0, other) for other in range(1, 12)])
        self.assertEqual(bound(book), [(0, other) for other in range(1, 12)])
        for one, other, cost in book.hearings():
            with self.subTest(one=one, other=other):
                # All others can hear from 0, so only this hearing is dearer.
                self.assertEqual(lack(book, one, other), cost - other)

    def test_drawn_books_of_twelve_tellers_hang_together(self):
        for costs in ((0, 1, 2), range(1000001)):
            for book in drawn_books(12, 12, 4, 7, costs):
                with self.subTest(book.hearings()):
                    goal = least(book)
                    self.assertEqual(goal, worth(book, judged(book)[1]))
                    self.assertEqual(goal, worth(book, first(book)))
                    self.assertLessEqual(first(book)[1:], judged(book)[1][1:])
                    some = free(book)
                    self.assertLessEqual(set(pairs_of(first(book))), set(some))
                    self.assertLessEqual(set(bound(book)), set(pairs_of(first(book))))
                    for one, other, cost in book.hearings():
                        self.assertEqual(lack(book, one, other) == 0, (one, other) in some)

    def test_lists_of_tuples_in_the_order_of_the_pairs(self):
        hearings = [(10, 11, 1), (0, 10, 1), (2, 9, 1), (0, 2, 1), (10, 1, 1)] + [(10, k, 1) for k in range(3, 9)]
        book = made(12, hearings)
        pairs = sorted((one, other) for one, other, cost in hearings)
        for answer in (free(book), bound(book)):
            self.assertEqual(answer, pairs)
            self.assertIs(type(answer), list)
            self.assertEqual({type(pair) for pair in answer}, {tuple})

    def test_a_hearing_that_no_family_has(self):
        # 1 can have heard it by 0 alone, so 2 never told 1.
        book = made(3, [(0, 1, 5), (1, 2, 6), (2, 1, 0)])
        self.assertIsNone(lack(book, 2, 1))
        self.assertEqual(lack(book, 1, 2), 0)
        self.assertEqual(free(book), [(0, 1), (1, 2)])

    def test_lack_is_nought_or_more(self):
        book = made(3, [(0, 1, 5), (0, 2, 1000000), (1, 2, 6), (2, 1, 0)])
        self.assertEqual(lack(book, 0, 1), 0)
        self.assertEqual(lack(book, 1, 2), 0)
        self.assertEqual(lack(book, 0, 2), 999989)
        self.assertEqual(lack(book, 2, 1), 999989)

    def test_the_most_worth(self):
        book = made(12, [(k, k + 1, 1000000) for k in range(11)])
        self.assertEqual(least(book), 11000000)
        self.assertEqual(first(book), [None] + list(range(11)))
        self.assertEqual(bound(book), [(k, k + 1) for k in range(11)])

    def test_a_list_that_was_told_is_the_askers(self):
        book = made(3, [(0, 1, 5), (1, 2, 6), (0, 2, 6)])
        for ask in (first, free, bound):
            with self.subTest(ask.__name__):
                before = ask(book)
                kept = list(before)
                later = ask(book)
                before[0] = (2, 1)
                before.append(9)
                self.assertEqual(later, kept)
                self.assertEqual(ask(book), kept)
                self.assertEqual(told(book), tried(book))
        self.assertEqual(state(book), (3, [(0, 1, 5), (0, 2, 6), (1, 2, 6)]))

    def test_an_empty_list_is_the_askers_too(self):
        for ask in (free, bound):
            ask(Book(3)).append((0, 1))
            self.assertEqual(ask(Book(3)), [])

    def test_what_was_told_stays_behind_a_change_of_the_book(self):
        book = made(3, [(0, 1, 5), (1, 2, 6)])
        answers = first(book), free(book), bound(book)
        book.let(0, 2, 0)
        book.ban(1, 2)
        self.assertEqual(answers, ([None, 0, 1], [(0, 1), (1, 2)], [(0, 1), (1, 2)]))

    def test_first_is_a_family(self):
        for book in drawn_books(7, 9, 10, 5, (0, 1, 2, 3)):
            family = first(book)
            if family is not None:
                self.assertIs(type(family), list)
                self.assertTrue(is_family(book, family))

    def test_the_arguments_have_the_names_of_the_interface(self):
        book = made(2, [(0, 1, 8)])
        self.assertEqual(least(book=book), 8)
        self.assertEqual(first(book=book), [None, 0])
        self.assertEqual(lack(book=book, one=0, other=1), 0)
        self.assertEqual(free(book=book), [(0, 1)])
        self.assertEqual(bound(book=book), [(0, 1)])


# What is asked of a book of 5 tellers, and the refusal that goes first. None
# of its books has the hearing from 3 to 2.
REFUSED = (
    [((number, other), NoTeller) for number in (-1, 5, 12, FAR, -FAR, ENDLESS) for other in (0, 1, 4)]
    + [((one, number), NoTeller) for number in (-1, 5, 12, FAR, -FAR, ENDLESS) for one in (0, 1, 4)]
    + [((number, number), NoTeller) for number in (-1, 5, FAR, -ENDLESS)]
    + [((teller, teller), Alone) for teller in (0, 1, 4)]
    + [((teller, 0), First) for teller in (1, 2, 4)]
    + [((3, 2), NoHearing)]
)


class Refusals(unittest.TestCase):
    def test_lack(self):
        books = [
            Book(5),
            made(5, [(0, 1, 3), (1, 4, 5)]),
            made(5, [(0, 1, 3), (1, 2, 4), (2, 3, 1), (3, 4, 0), (4, 1, 0)]),
            full(5),
        ]
        books[3].ban(3, 2)
        for book in books:
            before = state(book)
            for pair, error in REFUSED:
                with self.subTest(before=before, error=error, bits=[number.bit_length() for number in pair]):
                    with self.assertRaises(error) as caught:
                        lack(book, pair[0], pair[1])
                    self.assertIs(type(caught.exception), error)
                    self.assertEqual(state(book), before)

    def test_lack_in_a_book_of_one_teller(self):
        for pair, error in (((0, 0), Alone), ((0, 1), NoTeller), ((1, 0), NoTeller), ((1, 1), NoTeller)):
            with self.subTest(pair):
                self.assertRaises(error, lack, Book(1), pair[0], pair[1])

    def test_the_other_way_round_is_no_hearing(self):
        book = made(3, [(0, 1, 3), (1, 2, 0)])
        self.assertEqual(lack(book, 1, 2), 0)
        self.assertRaises(NoHearing, lack, book, 2, 1)

    def test_behind_a_ban(self):
        book = made(3, [(0, 1, 3), (1, 2, 4), (0, 2, 9)])
        self.assertEqual(lack(book, 0, 2), 5)
        book.ban(0, 2)
        self.assertRaises(NoHearing, lack, book, 0, 2)
        book.let(0, 2, 0)
        self.assertEqual(lack(book, 1, 2), 4)


if __name__ == "__main__":
    unittest.main()
