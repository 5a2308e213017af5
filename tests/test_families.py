import itertools
import unittest

from hearwood.book import Book
from hearwood.errors import NoFamily
from hearwood.families import is_family, worth
from making import FAR, full, made, state

# (what it is, the book's tellers and hearings, the family, its worth)
FAMILIES = [
    ("one teller", 1, [], [None], 0),
    ("two tellers", 2, [(0, 1, 7)], [None, 0], 7),
    ("no cost at all", 3, [(0, 1, 0), (1, 2, 0)], [None, 0, 1], 0),
    ("the most cost", 3, [(0, 1, 1000000), (0, 2, 1000000)], [None, 0, 0], 2000000),
    ("a rising chain", 4, [(0, 1, 1), (1, 2, 20), (2, 3, 300)], [None, 0, 1, 2], 321),
    ("a falling chain", 4, [(0, 3, 1), (3, 2, 20), (2, 1, 300)], [None, 2, 3, 0], 321),
    ("a star", 4, [(0, 1, 1), (0, 2, 20), (0, 3, 300)], [None, 0, 0, 0], 321),
    ("a star round teller 3", 4, [(0, 3, 1), (3, 1, 20), (3, 2, 300)], [None, 3, 3, 0], 321),
    (
        "a mixed tree",
        6,
        [(0, 4, 5), (4, 1, 6), (4, 5, 7), (0, 2, 8), (5, 3, 9), (3, 5, 1), (1, 4, 1)],
        [None, 4, 0, 5, 0, 4],
        35,
    ),
    ("a chain of twelve", 12, [(k, k + 1, 10 ** 6 - k) for k in range(11)], [None] + list(range(11)), 10999945),
    ("a falling chain of twelve", 12, [(0, 11, 1)] + [(k + 1, k, k) for k in range(1, 11)],
     [None] + list(range(2, 12)) + [0], 56),
    ("a star of twelve", 12, [(0, k, k) for k in range(1, 12)], [None] + [0] * 11, 66),
]

# (what is wrong, the list); every hearing there can be is in the book of 4.
NO_FAMILIES = [
    ("empty", []),
    ("too short", [None, 0, 0]),
    ("None alone", [None]),
    ("too long by None", [None, 0, 0, 0, None]),
    ("too long by a teller", [None, 0, 0, 0, 0]),
    ("twenty places", [None] + [0] * 19),
    ("teller 0 at the first place", [0, 0, 0, 0]),
    ("another teller at the first place", [1, 0, 0, 0]),
    ("no teller at the first place", [-1, 0, 0, 0]),
    ("None at the second place too", [None, None, 0, 0]),
    ("None at the last place too", [None, 0, 0, None]),
    ("None at a place that others lead to", [None, 2, None, 0]),
    ("None everywhere", [None, None, None, None]),
    ("None at a wrong place alone", [0, None, 0, 0]),
    ("below nought", [None, -1, 0, 0]),
    ("below nought, counted from the end", [None, 0, 0, -4]),
    ("far below nought", [None, 0, -FAR, 0]),
    ("the first number beyond", [None, 0, 4, 0]),
    ("far beyond", [None, 0, 0, FAR]),
    ("from itself", [None, 1, 0, 0]),
    ("the last one from itself", [None, 0, 0, 3]),
    ("all from themselves", [None, 1, 2, 3]),
    ("a ring of two", [None, 2, 1, 0]),
    ("a ring of two that another one hangs on", [None, 2, 1, 2]),
    ("a ring of three", [None, 2, 3, 1]),
    ("a ring of three the other way round", [None, 3, 1, 2]),
]


def brute_force_is_family(book, family):
    """Point 4 the other way about: hearers are gathered from teller 0 on."""
    hearings = {(one, other) for one, other, cost in book.hearings()}
    if len(family) != book.many() or family[0] is not None:
        return False
    reached = {0}
    for again in family:
        reached |= {k for k, one in enumerate(family) if one in reached and (one, k) in hearings}
    return len(reached) == book.many()


class IsFamily(unittest.TestCase):
    def test_families(self):
        for name, many, hearings, family, value in FAMILIES:
            with self.subTest(name):
                self.assertIs(is_family(made(many, hearings), family), True)
                self.assertIs(is_family(full(many), family), True)

    def test_no_families(self):
        for name, family in NO_FAMILIES:
            with self.subTest(name):
                self.assertIs(is_family(full(4), family), False)

    def test_no_families_of_one_teller(self):
        for family in ([], [0], [-1], [1], [None, None], [None, 0]):
            with self.subTest(family):
                self.assertIs(is_family(Book(1), family), False)

    def test_each_hearing_must_be_there(self):
        for name, many, hearings, family, value in FAMILIES:
            for other in range(1, many):
                with self.subTest(name, other=other):
                    book = full(many)
                    book.ban(family[other], other)
                    self.assertIs(is_family(book, family), False)
                    book.let(family[other], other, 0)
                    self.assertIs(is_family(book, family), True)

    def test_a_hearing_the_other_way_round_does_not_do(self):
        book = made(3, [(0, 1, 5), (2, 1, 6)])
        self.assertIs(is_family(book, [None, 0, 1]), False)
        book.let(1, 2, 6)
        self.assertIs(is_family(book, [None, 0, 1]), True)

    def test_long_rings(self):
        book = full(12)
        ring = [None, 11] + list(range(1, 11))
        self.assertIs(is_family(book, ring), False)
        for teller in range(1, 12):
            with self.subTest(teller):
                opened = ring[:teller] + [0] + ring[teller + 1:]
                self.assertIs(is_family(book, opened), True)

    def test_every_list_of_four_places(self):
        books = [full(4), made(4, [(0, 1, 1), (1, 2, 1), (2, 1, 1), (2, 3, 1), (3, 1, 1), (0, 3, 1)])]
        for book in books:
            for family in itertools.product((None, -1, 0, 1, 2, 3, 4), repeat=4):
                told = is_family(book, list(family))
                self.assertIs(told, brute_force_is_family(book, list(family)), family)

    def test_what_is_handed_in_stays_as_it_was(self):
        lists = [family for name, family in NO_FAMILIES] + [[None, 0, 1, 2], [None, 2, 3, 0]]
        for family in lists:
            with self.subTest(family):
                book = full(4)
                before = state(book)
                handed = list(family)
                is_family(book, handed)
                self.assertEqual(handed, family)
                self.assertEqual(state(book), before)

    def test_changing_the_list_behind_the_call(self):
        book = full(3)
        family = [None, 0, 1]
        self.assertIs(is_family(book, family), True)
        family[1] = 2
        self.assertIs(is_family(book, family), False)
        self.assertIs(is_family(book, [None, 0, 1]), True)

    def test_the_arguments_have_the_names_of_the_interface(self):
        self.assertIs(is_family(book=Book(1), family=[None]), True)
        self.assertEqual(worth(book=Book(1), family=[None]), 0)


class Worth(unittest.TestCase):
    def test_worth_is_the_sum_of_the_costs(self):
        for name, many, hearings, family, value in FAMILIES:
            with self.subTest(name):
                self.assertEqual(worth(made(many, hearings), family), value)

    def test_other_hearings_do_not_count(self):
        book = made(3, [(0, 1, 1), (0, 2, 20), (1, 2, 300), (2, 1, 4000)])
        self.assertEqual(worth(book, [None, 0, 0]), 21)
        self.assertEqual(worth(book, [None, 0, 1]), 301)
        self.assertEqual(worth(book, [None, 2, 0]), 4020)

    def test_a_cost_let_again_counts(self):
        book = made(3, [(0, 1, 1), (1, 2, 20)])
        self.assertEqual(worth(book, [None, 0, 1]), 21)
        book.let(1, 2, 7)
        self.assertEqual(worth(book, [None, 0, 1]), 8)

    def test_what_is_no_family_is_refused(self):
        for name, family in NO_FAMILIES:
            with self.subTest(name):
                with self.assertRaises(NoFamily) as caught:
                    worth(full(4), family)
                self.assertIs(type(caught.exception), NoFamily)

    def test_no_families_of_one_teller_are_refused(self):
        for family in ([], [0], [None, None], [None, 0]):
            with self.subTest(family):
                self.assertRaises(NoFamily, worth, Book(1), family)

    def test_refused_where_a_hearing_was_banned(self):
        for name, many, hearings, family, value in FAMILIES:
            for other in range(1, many):
                with self.subTest(name, other=other):
                    book = made(many, hearings)
                    cost = book.cost(family[other], other)
                    book.ban(family[other], other)
                    self.assertRaises(NoFamily, worth, book, family)
                    book.let(family[other], other, cost + 1)
                    self.assertEqual(worth(book, family), value + 1)

    def test_what_is_handed_in_stays_as_it_was(self):
        book = full(4)
        before = state(book)
        family = [None, 2, 3, 0]
        worth(book, family)
        self.assertEqual(family, [None, 2, 3, 0])
        ring = [None, 2, 1, 0]
        self.assertRaises(NoFamily, worth, book, ring)
        self.assertEqual(ring, [None, 2, 1, 0])
        self.assertEqual(state(book), before)

    def test_changing_the_list_behind_the_call(self):
        book = full(3)
        family = [None, 0, 1]
        self.assertEqual(worth(book, family), 103)
        family[2] = 0
        self.assertEqual(worth(book, family), 3)
        self.assertEqual(worth(book, [None, 0, 1]), 103)


if __name__ == "__main__":
    unittest.main()
