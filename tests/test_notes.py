import re
import unittest

from hearwood.book import Book
from hearwood.errors import BadText
from hearwood.judging import judged
from hearwood.notes import read, shown
from making import drawn_books, every_book, full, made, state

# (what it is, the tellers, the hearings, the text)
WRITTEN = [
    ("one teller", 1, [], "tellers 1"),
    ("two tellers without hearings", 2, [], "tellers 2"),
    ("twelve tellers without hearings", 12, [], "tellers 12"),
    ("cost 0", 2, [(0, 1, 0)], "tellers 2\n0 to 1 costs 0"),
    ("the most cost", 2, [(0, 1, 1000000)], "tellers 2\n0 to 1 costs 1000000"),
    ("noughts within and behind", 3, [(0, 2, 100), (2, 1, 1001)], "tellers 3\n0 to 2 costs 100\n2 to 1 costs 1001"),
    (
        "let out of order",
        4,
        [(3, 1, 9), (1, 3, 8), (0, 3, 7), (1, 2, 6)],
        "tellers 4\n0 to 3 costs 7\n1 to 2 costs 6\n1 to 3 costs 8\n3 to 1 costs 9",
    ),
    (
        "in the order of numbers, not of texts",
        12,
        [(10, 2, 1), (2, 10, 2), (2, 9, 3), (11, 10, 4)],
        "tellers 12\n2 to 9 costs 3\n2 to 10 costs 2\n10 to 2 costs 1\n11 to 10 costs 4",
    ),
]

# (what is wrong, the text)
BAD = [
    ("empty", ""),
    ("a blank", " "),
    ("a tab", "\t"),
    ("a line end", "\n"),
    ("other words", "a tale"),
    ("the word alone", "tellers"),
    ("the word and a blank", "tellers "),
    ("a number alone", "3"),
    ("no blank", "tellers3"),
    ("two blanks", "tellers  3"),
    ("a blank ahead", " tellers 3"),
    ("a blank behind", "tellers 3 "),
    ("a tab between", "tellers\t3"),
    ("a tab ahead", "\ttellers 3"),
    ("a tab behind", "tellers 3\t"),
    ("another first word", "teller 3"),
    ("a large letter", "Tellers 3"),
    ("the number first", "3 tellers"),
    ("two numbers", "tellers 3 3"),
    ("a nought ahead", "tellers 03"),
    ("a nought ahead of 12", "tellers 012"),
    ("+ ahead", "tellers +3"),
    ("- ahead", "tellers -3"),
    ("_ within", "tellers 1_0"),
    ("_ ahead", "tellers _3"),
    ("_ behind", "tellers 3_"),
    ("a dot", "tellers 3."),
    ("no whole number", "tellers 3.0"),
    ("a power", "tellers 1e1"),
    ("figures of another kind", "tellers 0x3"),
    ("a letter", "tellers x"),
    ("0 tellers", "tellers 0"),
    ("-0 tellers", "tellers -0"),
    ("00 tellers", "tellers 00"),
    ("13 tellers", "tellers 13"),
    ("20 tellers", "tellers 20"),
    ("120 tellers", "tellers 120"),
    ("very many tellers", "tellers " + "9" * 3990),
    ("very many noughts", "tellers " + "0" * 3989 + "3"),
    ("beyond 4000 signs", "tellers " + "9" * 9000),
    ("a line end ahead", "\ntellers 3"),
    ("a line end behind", "tellers 3\n"),
    ("two line ends behind", "tellers 3\n\n"),
    ("a blank line behind", "tellers 3\n "),
    ("a line end behind the last", "tellers 3\n0 to 1 costs 5\n"),
    ("an empty line between", "tellers 3\n\n0 to 1 costs 5"),
    ("an empty line between hearings", "tellers 3\n0 to 1 costs 5\n\n0 to 2 costs 5"),
    ("a line end within a line", "tellers 3\n0 to 1\ncosts 5"),
    ("a line end within the first line", "tellers\n3"),
    ("no line end", "tellers 3 0 to 1 costs 5"),
    ("no line end between hearings", "tellers 3\n0 to 1 costs 5 0 to 2 costs 5"),
    ("no first line", "0 to 1 costs 5"),
    ("no first line, two hearings", "0 to 1 costs 5\n0 to 2 costs 5"),
    ("an empty first line", "\n0 to 1 costs 5"),
    ("a second first line", "tellers 3\ntellers 3\n0 to 1 costs 5"),
    ("a second first line alone", "tellers 3\ntellers 3"),
    ("the first line last", "0 to 1 costs 5\ntellers 3"),
    ("the first line again at the end", "tellers 3\n0 to 1 costs 5\ntellers 3"),
    ("a line twice", "tellers 3\n0 to 1 costs 5\n0 to 1 costs 5"),
    ("a hearing twice", "tellers 3\n0 to 1 costs 5\n0 to 1 costs 6"),
    ("a hearing again later", "tellers 3\n0 to 1 costs 5\n0 to 2 costs 5\n0 to 1 costs 5"),
    ("out of order", "tellers 3\n0 to 2 costs 5\n0 to 1 costs 5"),
    ("out of order by the first", "tellers 3\n1 to 2 costs 5\n0 to 1 costs 5"),
    ("in the order of texts", "tellers 12\n0 to 10 costs 5\n0 to 9 costs 5"),
    ("in the order of texts by the first", "tellers 12\n10 to 1 costs 5\n2 to 1 costs 5"),
    ("in the order of costs", "tellers 3\n0 to 2 costs 1\n0 to 1 costs 2"),
    ("a number that is no teller's, from", "tellers 3\n3 to 1 costs 5"),
    ("a number that is no teller's, to", "tellers 3\n0 to 3 costs 5"),
    ("a number that is no teller's, far out", "tellers 12\n0 to 12 costs 5"),
    ("below nought, from", "tellers 3\n-1 to 1 costs 5"),
    ("below nought, to", "tellers 3\n0 to -1 costs 5"),
    ("to itself", "tellers 3\n1 to 1 costs 5"),
    ("from 0 to 0", "tellers 3\n0 to 0 costs 5"),
    ("to teller 0", "tellers 3\n1 to 0 costs 5"),
    ("a hearing of one teller", "tellers 1\n0 to 0 costs 5"),
    ("a hearing to a missing teller", "tellers 1\n0 to 1 costs 5"),
    ("a cost too high", "tellers 3\n0 to 1 costs 1000001"),
    ("a cost of seven nines", "tellers 3\n0 to 1 costs 9999999"),
    ("a cost of eight figures", "tellers 3\n0 to 1 costs 10000000"),
    ("a nought ahead of the most cost", "tellers 3\n0 to 1 costs 01000000"),
    ("a cost below nought", "tellers 3\n0 to 1 costs -5"),
    ("a cost of -0", "tellers 3\n0 to 1 costs -0"),
    ("+ ahead of a cost", "tellers 3\n0 to 1 costs +5"),
    ("_ in a cost", "tellers 3\n0 to 1 costs 1_0"),
    ("a nought ahead of a cost", "tellers 3\n0 to 1 costs 05"),
    ("two noughts for a cost", "tellers 3\n0 to 1 costs 00"),
    ("a nought ahead, from", "tellers 3\n00 to 1 costs 5"),
    ("a nought ahead, to", "tellers 3\n0 to 01 costs 5"),
    ("+ ahead, from", "tellers 3\n+0 to 1 costs 5"),
    ("+ ahead, to", "tellers 3\n0 to +1 costs 5"),
    ("_ in a teller", "tellers 12\n0 to 1_1 costs 5"),
    ("no cost", "tellers 3\n0 to 1 costs"),
    ("no cost behind the blank", "tellers 3\n0 to 1 costs "),
    ("no teller ahead", "tellers 3\n to 1 costs 5"),
    ("no teller behind", "tellers 3\n0 to  costs 5"),
    ("a letter for a cost", "tellers 3\n0 to 1 costs x"),
    ("a letter for a teller", "tellers 3\nx to 1 costs 5"),
    ("None for a cost", "tellers 3\n0 to 1 costs None"),
    ("another word between the tellers", "tellers 3\n0 in 1 costs 5"),
    ("another word ahead of the cost", "tellers 3\n0 to 1 cost 5"),
    ("a large letter in a line", "tellers 3\n0 To 1 costs 5"),
    ("a word too many", "tellers 3\n0 to 1 costs 5 now"),
    ("a word too many ahead", "tellers 3\nand 0 to 1 costs 5"),
    ("a word too few", "tellers 3\n0 1 costs 5"),
    ("a blank ahead of a line", "tellers 3\n 0 to 1 costs 5"),
    ("a blank behind a line", "tellers 3\n0 to 1 costs 5 "),
    ("a blank behind the first line", "tellers 3 \n0 to 1 costs 5"),
    ("two blanks in a line", "tellers 3\n0 to  1 costs 5"),
    ("a blank too few", "tellers 3\n0 to1 costs 5"),
    ("no blanks", "tellers 3\n0to1costs5"),
    ("a tab in a line", "tellers 3\n0 to 1 costs\t5"),
    ("a tab ahead of a line", "tellers 3\n\t0 to 1 costs 5"),
    ("a very long cost", "tellers 3\n0 to 1 costs " + "9" * 3970),
    ("a very long cost of noughts", "tellers 3\n0 to 1 costs " + "0" * 3970),
    ("a very long teller", "tellers 3\n0 to " + "1" * 3970 + " costs 5"),
    ("a very long cost beyond 4000 signs", "tellers 3\n0 to 1 costs " + "1" * 9000),
    ("very many line ends", "tellers 3" + "\n" * 3900),
    ("very many blanks", "tellers" + " " * 3900 + "3"),
    ("very many lines", "tellers 3" + "\n0 to 1 costs 5" * 250),
]


def is_written(text):
    """Whether the text is what is written of some book, by patterns and the order of the lines."""
    lines = text.split("\n")
    head = re.fullmatch("tellers ([1-9]|1[0-2])", lines[0])
    if head is None:
        return False
    pairs = []
    for line in lines[1:]:
        parts = re.fullmatch("(0|[1-9]|1[01]) to ([1-9]|1[01]) costs (0|[1-9][0-9]{0,5}|1000000)", line)
        if parts is None:
            return False
        pairs.append((int(parts[1]), int(parts[2])))
    known = all(one != other and max(one, other) < int(head[1]) for one, other in pairs)
    return known and all(ahead < behind for ahead, behind in zip(pairs, pairs[1:]))


class Notes(unittest.TestCase):
    def check(self, book):
        before = state(book)
        text = shown(book)
        self.assertIs(type(text), str)
        self.assertEqual(state(book), before)
        again = read(text)
        self.assertIs(type(again), Book)
        self.assertEqual(state(again), before)
        self.assertEqual(shown(again), text)

    def test_written(self):
        for name, many, hearings, text in WRITTEN:
            with self.subTest(name):
                self.assertEqual(shown(made(many, hearings)), text)
                self.assertEqual(state(read(text)), (many, sorted(hearings)))
                self.check(made(many, hearings))

    def test_twelve_tellers_with_all_hearings(self):
        self.check(full(12))
        lines = shown(full(12)).split("\n")
        self.assertEqual(len(lines), 122)
        self.assertEqual(lines[0], "tellers 12")
        self.assertEqual(lines[1], "0 to 1 costs 1")
        self.assertEqual(lines[12], "1 to 2 costs 102")
        self.assertEqual(lines[-1], "11 to 10 costs 1110")

    def test_longest_text(self):
        book = made(12, [(one, other, 1000000) for one in range(12) for other in range(1, 12) if one != other])
        self.assertLessEqual(len(shown(book)), 4000)
        self.check(book)

    def test_every_number_of_tellers(self):
        for many in range(1, 13):
            with self.subTest(many):
                self.assertEqual(shown(Book(many)), f"tellers {many}")
                self.check(Book(many))

    def test_every_book_of_three_tellers(self):
        for book in every_book(3, (None, 0, 7, 1000000)):
            with self.subTest(book.hearings()):
                self.check(book)

    def test_drawn_books(self):
        for many in range(2, 13):
            for book in drawn_books(many, many, 10, 5, range(1000001)):
                with self.subTest(book.hearings()):
                    self.check(book)

    def test_behind_letting_and_banning(self):
        book = made(3, [(0, 1, 5), (1, 2, 6)])
        text = shown(book)
        book.let(0, 1, 4)
        book.let(0, 2, 3)
        book.ban(1, 2)
        self.assertEqual(text, "tellers 3\n0 to 1 costs 5\n1 to 2 costs 6")
        self.assertEqual(shown(book), "tellers 3\n0 to 1 costs 4\n0 to 2 costs 3")
        book.ban(0, 1)
        book.ban(0, 2)
        self.assertEqual(shown(book), "tellers 3")

    def test_two_books_read_from_one_text_do_not_touch_one_another(self):
        text = "tellers 3\n0 to 1 costs 5\n1 to 2 costs 6"
        left = read(text)
        right = read(text)
        self.assertEqual(left.let(0, 2, 1), 3)
        self.assertEqual(left.ban(0, 1), 2)
        self.assertEqual(shown(right), text)
        self.assertEqual(right.let(1, 2, 9), 2)
        self.assertEqual(state(left), (3, [(0, 2, 1), (1, 2, 6)]))
        self.assertEqual(shown(read(text)), text)

    def test_a_book_that_was_read_is_one_like_others(self):
        book = read("tellers 3\n0 to 1 costs 5\n1 to 2 costs 6")
        self.assertEqual(judged(book)[1], [None, 0, 1])
        self.assertEqual(book.let(0, 2, 1), 3)
        self.assertEqual(judged(book)[1], [None, 0, 0])

    def test_the_arguments_have_the_names_of_the_interface(self):
        self.assertEqual(shown(book=read(text="tellers 1")), "tellers 1")


class Refusals(unittest.TestCase):
    def check(self, text):
        with self.assertRaises(BadText) as caught:
            read(text)
        self.assertIs(type(caught.exception), BadText)

    def test_bad_texts(self):
        for name, text in BAD:
            with self.subTest(name):
                self.assertFalse(is_written(text))
                self.check(text)

    def test_every_text_near_to_a_good_one(self):
        signs = "\t\n +-_.,/0123:tox~"
        for good in ("tellers 1", "tellers 12\n0 to 11 costs 10", "tellers 3\n0 to 1 costs 1000000\n0 to 2 costs 0"):
            near = {good[:at] + good[at + 1:] for at in range(len(good))}
            near |= {good[:at] + sign + good[at:] for at in range(len(good) + 1) for sign in signs}
            near |= {good[:at] + sign + good[at + 1:] for at in range(len(good)) for sign in signs}
            near |= {good[:at] + good[until:] for at in range(len(good)) for until in range(at, len(good) + 1)}
            for text in sorted(near):
                with self.subTest(text):
                    if is_written(text):
                        self.assertEqual(shown(read(text)), text)
                    else:
                        self.check(text)

    def test_lines_in_every_order(self):
        lines = ["tellers 3", "0 to 1 costs 5", "0 to 2 costs 4", "2 to 1 costs 3"]
        for number in range(4 ** 4):
            picked = [lines[number // 4 ** place % 4] for place in range(4)]
            with self.subTest(picked):
                if picked == lines:
                    self.assertEqual(shown(read("\n".join(picked))), "\n".join(lines))
                else:
                    self.check("\n".join(picked))


if __name__ == "__main__":
    unittest.main()
