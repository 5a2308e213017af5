import itertools
import unittest

from hearwood.book import Book
from hearwood.judging import judged
from making import RINGS, drawn_books, every_book, full, leads_to_first, made, sparse_books, state


def enters(hearing, group):
    return hearing[0] not in group and hearing[1] in group


class Judging(unittest.TestCase):
    """What is told is held against points 4 to 7 alone, never against another judging."""

    def check(self, book):
        before = state(book)
        told = judged(book)
        self.assertEqual(state(book), before)
        self.assertIs(type(told), tuple)
        if told[0] == "family":
            self.assertEqual(len(told), 3)
            self.check_family(book, told[1])
            self.check_prices(book, told[2])
            worth = sum(book.cost(told[1][other], other) for other in range(1, book.many()))
            self.assertEqual(sum(price for group, price in told[2]), worth)
        else:
            self.assertEqual(told[0], "lonely")
            self.assertEqual(len(told), 2)
            self.check_group(book, told[1])
            self.assertFalse([hearing for hearing in book.hearings() if enters(hearing, told[1])])
        return told

    def check_family(self, book, family):
        self.assertIs(type(family), list)
        self.assertEqual(len(family), book.many())
        self.assertIsNone(family[0])
        for other in range(1, book.many()):
            self.assertIs(type(family[other]), int)
            self.assertIsNotNone(book.cost(family[other], other))
            self.assertTrue(leads_to_first(family, other))

    def check_group(self, book, group):
        self.assertIs(type(group), list)
        self.assertGreaterEqual(len(group), 1)
        self.assertEqual(group, sorted(set(group)))
        for teller in group:
            self.assertIs(type(teller), int)
            self.assertIn(teller, range(1, book.many()))

    def check_prices(self, book, prices):
        self.assertIs(type(prices), list)
        for pair in prices:
            self.assertIs(type(pair), tuple)
            self.assertEqual(len(pair), 2)
            self.check_group(book, pair[0])
            self.assertIs(type(pair[1]), int)
            self.assertGreater(pair[1], 0)
        for (one, price), (other, price) in itertools.combinations(prices, 2):
            self.assertNotEqual(one, other)
            shared = set(one) & set(other)
            self.assertIn(shared, (set(), set(one), set(other)))
        for hearing in book.hearings():
            self.assertLessEqual(sum(price for group, price in prices if enters(hearing, group)), hearing[2])

    def check_told(self, book, answer):
        self.assertEqual(self.check(book)[0], answer)

    def test_one_teller(self):
        self.assertEqual(judged(Book(1)), ("family", [None], []))
        self.check(Book(1))

    def test_two_tellers(self):
        for cost in (1, 2, 7, 1000000):
            with self.subTest(cost):
                self.assertEqual(judged(made(2, [(0, 1, cost)])), ("family", [None, 0], [([1], cost)]))

    def test_no_price_stands_for_cost_0(self):
        self.assertEqual(judged(made(2, [(0, 1, 0)])), ("family", [None, 0], []))
        self.assertEqual(judged(made(3, [(0, 1, 0), (1, 2, 0), (2, 1, 0)])), ("family", [None, 0, 1], []))

    def test_two_tellers_without_the_hearing(self):
        self.assertEqual(judged(Book(2)), ("lonely", [1]))

    def test_books_without_hearings(self):
        for many in range(2, 13):
            with self.subTest(many):
                self.check_told(Book(many), "lonely")

    def test_only_one_lonely_group(self):
        for many, hearings, group in (
            (3, [(0, 1, 5)], [2]),
            (3, [(0, 2, 5)], [1]),
            (3, [(2, 1, 5), (1, 2, 5)], [1, 2]),
            (3, [(2, 1, 0), (1, 2, 0)], [1, 2]),
            (4, [(0, 1, 5), (2, 3, 5), (3, 2, 9)], [2, 3]),
            (4, [(0, 1, 5), (2, 3, 5), (3, 2, 9), (3, 1, 0), (2, 1, 0)], [2, 3]),
            (4, [(0, 2, 5), (3, 1, 5), (1, 3, 0), (1, 2, 0)], [1, 3]),
            (12, [(k, k + 1, k) for k in range(1, 11)] + [(11, 1, 3)], list(range(1, 12))),
        ):
            with self.subTest(hearings):
                book = made(many, hearings)
                self.assertEqual(self.check(book), ("lonely", group))

    def test_lonely_groups_one_behind_another(self):
        self.check_told(made(4, [(1, 2, 3), (2, 3, 4)]), "lonely")
        self.check_told(made(5, [(0, 1, 1), (2, 3, 3), (3, 2, 3), (3, 4, 4), (4, 1, 2)]), "lonely")

    def test_rings(self):
        for name, many, hearings, value in RINGS:
            with self.subTest(name):
                told = self.check(made(many, hearings))
                self.assertEqual(told[0], "family")
                self.assertEqual(sum(price for group, price in told[2]), value)

    def test_rings_that_nobody_enters(self):
        for name, many, hearings, value in RINGS:
            with self.subTest(name):
                self.check_told(made(many, [hearing for hearing in hearings if hearing[0] != 0]), "lonely")

    def test_twelve_tellers_with_all_hearings(self):
        self.check_told(full(12), "family")
        for name, cost in (
            ("all 0", lambda one, other: 0),
            ("all 1", lambda one, other: 1),
            ("all the most", lambda one, other: 1000000),
            ("near is cheap", lambda one, other: abs(one - other)),
            ("far is cheap", lambda one, other: 12 - abs(one - other)),
            ("from 0 is dear", lambda one, other: 1000000 if one == 0 else 3 * one + other),
            ("0 but from 0", lambda one, other: 1000000 if one == 0 else 0),
            ("mixed up", lambda one, other: (one * one * 37 + other * 101) % 59),
        ):
            with self.subTest(name):
                self.check_told(made(12, [
                    (one, other, cost(one, other)) for one in range(12) for other in range(1, 12) if one != other
                ]), "family")

    def test_twelve_tellers_in_a_chain(self):
        rising = [(k, k + 1, k) for k in range(11)]
        back = [(k + 1, k, 0) for k in range(1, 11)]
        for hearings in (rising, rising + back):
            told = self.check(made(12, hearings))
            self.assertEqual(told[1], [None] + list(range(11)))
        for cut in range(11):
            with self.subTest(cut):
                self.check_told(made(12, [hearing for hearing in rising + back if hearing[0] != cut
                                          or hearing[1] != cut + 1]), "lonely")

    def test_every_book_of_three_tellers(self):
        for book in every_book(3, (None, 0, 1, 2, 5)):
            with self.subTest(book.hearings()):
                self.check(book)

    def test_every_book_of_four_tellers(self):
        for book in every_book(4, (None, 0, 1)):
            with self.subTest(book.hearings()):
                self.check(book)

    def test_drawn_books(self):
        for many in range(4, 13):
            for share in (2, 4, 7, 10):
                for costs in ((0, 1, 2), (1, 5, 25, 125), range(1000001)):
                    for book in drawn_books(many * 100 + share, many, 5, share, costs):
                        with self.subTest(many=many, hearings=book.hearings()):
                            self.check(book)

    def test_sparse_books(self):
        for many in range(3, 13):
            for book in sparse_books(many, many, 20, (0, 1, 2, 9, 1000000)):
                with self.subTest(many=many, hearings=book.hearings()):
                    self.check(book)

    def test_asked_again_behind_letting_and_banning(self):
        book = made(3, [(0, 1, 5), (1, 2, 7)])
        self.check_told(book, "family")
        book.ban(0, 1)
        self.assertEqual(self.check(book), ("lonely", [1]))
        book.let(0, 2, 4)
        self.assertEqual(self.check(book), ("lonely", [1]))
        book.let(2, 1, 3)
        told = self.check(book)
        self.assertEqual(told[1], [None, 2, 0])
        self.assertEqual(sum(price for group, price in told[2]), 7)
        book.let(0, 1, 0)
        self.assertEqual(self.check(book)[1], [None, 0, 0])


class Told(unittest.TestCase):
    def test_changing_what_was_told_changes_no_later_answer(self):
        for name, many, hearings, value in RINGS:
            with self.subTest(name):
                book = made(many, hearings)
                before = state(book)
                told = judged(book)
                again = judged(book)
                self.assertEqual(told, again)
                kept = repr(again)
                for group, price in told[2]:
                    group.append(99)
                    group[0] = 0
                told[2].clear()
                told[1][1] = None
                told[1].append(7)
                self.assertEqual(repr(again), kept)
                self.assertEqual(repr(judged(book)), kept)
                self.assertEqual(state(book), before)

    def test_changing_one_group_changes_no_other_one(self):
        for name, many, hearings, value in RINGS:
            with self.subTest(name):
                prices = judged(made(many, hearings))[2]
                kept = repr(prices[1:])
                prices[0][0].append(99)
                self.assertEqual(repr(prices[1:]), kept)

    def test_changing_a_lonely_group(self):
        book = made(3, [(1, 2, 4), (2, 1, 5)])
        told = judged(book)
        told[1].append(0)
        self.assertEqual(judged(book), ("lonely", [1, 2]))
        self.assertEqual(state(book), (3, [(1, 2, 4), (2, 1, 5)]))

    def test_what_was_told_stays_behind_a_change_of_the_book(self):
        book = made(3, [(0, 1, 5), (1, 2, 7)])
        told = judged(book)
        kept = repr(told)
        book.let(0, 1, 6)
        book.ban(1, 2)
        self.assertEqual(repr(told), kept)

    def test_the_argument_has_the_name_of_the_interface(self):
        self.assertEqual(judged(book=Book(1)), ("family", [None], []))


if __name__ == "__main__":
    unittest.main()
