import itertools
import unittest

from hearwood.book import Book
from hearwood.errors import Alone, First, NoBook, NoHearing, NoTeller
from making import ENDLESS, FAR, full, made, state


class Books(unittest.TestCase):
    def test_one_to_twelve_tellers(self):
        for many in range(1, 13):
            with self.subTest(many):
                self.assertEqual(Book(many).many(), many)

    def test_a_new_book_has_no_hearings(self):
        for many in (1, 2, 12):
            with self.subTest(many):
                book = Book(many)
                self.assertEqual(book.hearings(), [])
                for one, other in itertools.permutations(range(many), 2):
                    if other != 0:
                        self.assertIsNone(book.cost(one, other))

    def test_other_numbers_of_tellers_are_refused(self):
        for many in (0, 13, 14, 100, -1, -2, -12, FAR, -FAR, ENDLESS, -ENDLESS):
            with self.subTest(above=many > 0, bits=many.bit_length()):
                with self.assertRaises(NoBook):
                    Book(many)

    def test_two_books_do_not_touch_one_another(self):
        left = Book(3)
        right = Book(3)
        self.assertEqual(left.let(0, 1, 5), 1)
        self.assertEqual(right.hearings(), [])
        self.assertEqual(right.let(0, 1, 7), 1)
        self.assertEqual(right.let(1, 2, 8), 2)
        self.assertEqual(left.hearings(), [(0, 1, 5)])
        self.assertEqual(left.ban(0, 1), 0)
        self.assertEqual(right.hearings(), [(0, 1, 7), (1, 2, 8)])

    def test_the_arguments_have_the_names_of_the_interface(self):
        book = Book(many=3)
        self.assertEqual(book.let(one=1, other=2, cost=4), 1)
        self.assertEqual(book.cost(one=1, other=2), 4)
        self.assertEqual(book.ban(one=1, other=2), 0)


class Letting(unittest.TestCase):
    def test_the_number_of_hearings_is_given_back(self):
        book = Book(4)
        self.assertEqual(book.let(0, 1, 10), 1)
        self.assertEqual(book.let(0, 2, 20), 2)
        self.assertEqual(book.let(3, 2, 30), 3)
        self.assertEqual(book.hearings(), [(0, 1, 10), (0, 2, 20), (3, 2, 30)])

    def test_let_again_has_the_new_cost(self):
        for again in (9, 10, 11, 0):
            with self.subTest(again):
                book = made(3, [(0, 1, 10), (1, 2, 6)])
                self.assertEqual(book.let(0, 1, again), 2)
                self.assertEqual(book.cost(0, 1), again)
                self.assertEqual(book.hearings(), [(0, 1, again), (1, 2, 6)])

    def test_the_least_and_the_most_cost(self):
        book = Book(3)
        self.assertEqual(book.let(0, 1, 0), 1)
        self.assertEqual(book.let(0, 2, 1000000), 2)
        # 0 is a cost like others, not the lack of a hearing.
        self.assertEqual(book.cost(0, 1), 0)
        self.assertEqual(book.cost(0, 2), 1000000)
        self.assertEqual(book.hearings(), [(0, 1, 0), (0, 2, 1000000)])
        self.assertEqual(book.ban(0, 1), 1)

    def test_the_other_way_round_is_another_hearing(self):
        book = Book(3)
        self.assertEqual(book.let(1, 2, 5), 1)
        self.assertIsNone(book.cost(2, 1))
        self.assertEqual(book.let(2, 1, 8), 2)
        self.assertEqual(book.cost(1, 2), 5)
        self.assertEqual(book.cost(2, 1), 8)
        self.assertEqual(book.ban(1, 2), 1)
        self.assertEqual(book.hearings(), [(2, 1, 8)])

    def test_the_last_teller_tells_and_hears(self):
        for many in (2, 12):
            with self.subTest(many):
                book = Book(many)
                self.assertEqual(book.let(0, many - 1, 3), 1)
                self.assertEqual(book.cost(0, many - 1), 3)
        book = Book(12)
        self.assertEqual(book.let(11, 1, 4), 1)
        self.assertEqual(book.hearings(), [(11, 1, 4)])

    def test_every_hearing_that_can_be(self):
        book = full(12)
        self.assertEqual(len(book.hearings()), 121)
        self.assertEqual(book.let(11, 10, 3), 121)


class Banning(unittest.TestCase):
    def test_a_hearing_banned_is_gone(self):
        book = made(4, [(0, 1, 1), (1, 2, 2), (1, 3, 3)])
        self.assertEqual(book.ban(1, 2), 2)
        self.assertIsNone(book.cost(1, 2))
        self.assertEqual(book.hearings(), [(0, 1, 1), (1, 3, 3)])
        self.assertEqual(book.ban(0, 1), 1)
        self.assertEqual(book.ban(1, 3), 0)
        self.assertEqual(book.hearings(), [])

    def test_banned_twice_is_refused(self):
        book = made(3, [(0, 1, 1), (0, 2, 2)])
        book.ban(0, 1)
        with self.assertRaises(NoHearing):
            book.ban(0, 1)
        self.assertEqual(book.hearings(), [(0, 2, 2)])

    def test_let_behind_the_ban(self):
        book = made(3, [(0, 1, 1)])
        book.ban(0, 1)
        self.assertEqual(book.let(0, 1, 9), 1)
        self.assertEqual(book.hearings(), [(0, 1, 9)])


class Asking(unittest.TestCase):
    def test_no_cost_where_there_is_no_hearing(self):
        book = made(4, [(0, 1, 5), (2, 3, 6)])
        self.assertEqual(book.cost(0, 1), 5)
        self.assertEqual(book.cost(2, 3), 6)
        for one, other in ((0, 2), (0, 3), (1, 2), (1, 3), (2, 1), (3, 1), (3, 2)):
            with self.subTest(one=one, other=other):
                self.assertIsNone(book.cost(one, other))
        self.assertEqual(book.hearings(), [(0, 1, 5), (2, 3, 6)])

    def test_hearings_are_in_order_however_they_were_let(self):
        told = [(0, 2, 9), (1, 2, 8), (1, 3, 7), (3, 1, 0)]
        for order in itertools.permutations(told):
            with self.subTest(order):
                self.assertEqual(made(4, order).hearings(), told)

    def test_order_is_that_of_numbers(self):
        book = made(12, [(10, 1, 1), (2, 11, 2), (2, 3, 3), (11, 10, 4), (0, 10, 5), (0, 9, 6)])
        self.assertEqual(
            book.hearings(),
            [(0, 9, 6), (0, 10, 5), (2, 3, 3), (2, 11, 2), (10, 1, 1), (11, 10, 4)],
        )

    def test_hearings_are_a_list_of_tuples(self):
        told = made(3, [(0, 1, 5), (1, 2, 6)]).hearings()
        self.assertIs(type(told), list)
        for hearing in told:
            self.assertIs(type(hearing), tuple)

    def test_a_list_that_was_told_is_the_askers(self):
        book = made(3, [(0, 1, 5), (1, 2, 6)])
        told = book.hearings()
        later = book.hearings()
        told[0] = (2, 1, 1)
        told.append((0, 2, 3))
        self.assertEqual(later, [(0, 1, 5), (1, 2, 6)])
        self.assertEqual(book.hearings(), [(0, 1, 5), (1, 2, 6)])
        self.assertIsNone(book.cost(0, 2))
        later.clear()
        self.assertEqual(book.hearings(), [(0, 1, 5), (1, 2, 6)])
        self.assertEqual(book.let(0, 2, 1), 3)

    def test_a_list_that_was_told_stays_as_it_was(self):
        book = made(3, [(0, 1, 5), (1, 2, 6)])
        told = book.hearings()
        book.let(0, 1, 8)
        book.let(0, 2, 1)
        book.ban(1, 2)
        self.assertEqual(told, [(0, 1, 5), (1, 2, 6)])

    def test_empty_list_is_the_askers_too(self):
        book = Book(3)
        book.hearings().append((0, 1, 5))
        self.assertEqual(book.hearings(), [])
        self.assertEqual(Book(3).hearings(), [])


# What is asked of a book of 5 tellers, and the refusal that goes first.
NO_TELLER = [
    (number, other) for number in (-1, -5, 5, 6, 12, FAR, -FAR, ENDLESS, -ENDLESS) for other in (0, 1, 4)
]
REFUSED = (
    [(pair, NoTeller) for pair in NO_TELLER]
    + [((other, number), NoTeller) for number, other in NO_TELLER]
    + [((-1, 5), NoTeller), ((5, -1), NoTeller), ((FAR, -FAR), NoTeller)]
    # Alike, but no teller's: NoTeller goes ahead of Alone.
    + [((number, number), NoTeller) for number in (-1, 5, FAR, -FAR, ENDLESS)]
    + [((teller, teller), Alone) for teller in (1, 2, 4)]
    # Teller 0 twice: Alone goes ahead of First.
    + [((0, 0), Alone)]
    + [((teller, 0), First) for teller in (1, 2, 4)]
)


class Refusals(unittest.TestCase):
    def check(self, books, deed):
        for book in books:
            before = state(book)
            for pair, error in REFUSED:
                with self.subTest(before=before, error=error, bits=[n.bit_length() for n in pair]):
                    with self.assertRaises(error) as caught:
                        deed(book, pair)
                    self.assertIs(type(caught.exception), error)
                    self.assertEqual(state(book), before)

    def books(self):
        return [Book(5), made(5, [(0, 1, 3), (1, 4, 5)]), full(5)]

    def test_let(self):
        self.check(self.books(), lambda book, pair: book.let(pair[0], pair[1], 7))

    # Those of the books that have no hearings show that NoHearing goes last.
    def test_ban(self):
        self.check(self.books(), lambda book, pair: book.ban(pair[0], pair[1]))

    def test_cost(self):
        self.check(self.books(), lambda book, pair: book.cost(pair[0], pair[1]))

    def test_a_book_of_one_teller_takes_no_hearing(self):
        book = Book(1)
        for pair, error in (((0, 0), Alone), ((0, 1), NoTeller), ((1, 0), NoTeller), ((1, 1), NoTeller)):
            with self.subTest(pair):
                self.assertRaises(error, book.let, pair[0], pair[1], 7)
                self.assertRaises(error, book.ban, pair[0], pair[1])
                self.assertRaises(error, book.cost, pair[0], pair[1])
                self.assertEqual(state(book), (1, []))

    def test_ban_where_there_is_no_hearing(self):
        book = made(5, [(0, 1, 3), (1, 4, 5)])
        for one, other in ((0, 2), (4, 1), (2, 4), (3, 2)):
            with self.subTest(one=one, other=other):
                with self.assertRaises(NoHearing):
                    book.ban(one, other)
                self.assertEqual(state(book), (5, [(0, 1, 3), (1, 4, 5)]))

    def test_the_book_goes_on_behind_a_refusal(self):
        book = made(3, [(0, 1, 3)])
        self.assertRaises(First, book.let, 1, 0, 4)
        self.assertRaises(NoTeller, book.let, 0, 3, 4)
        self.assertRaises(NoHearing, book.ban, 1, 2)
        self.assertEqual(book.let(1, 2, 4), 2)
        self.assertEqual(book.ban(0, 1), 1)


if __name__ == "__main__":
    unittest.main()
