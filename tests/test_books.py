"""Books, and their texts: [32], and [12] for the rows of the kind's text in them."""
import itertools
import random
import unittest

from helper import STRANGE, error_of, filled_kinds, fillings_plainly, latin, nested

from onefilling import errors
from onefilling.books import book_of, book_text, is_book, with_puzzle, without
from onefilling.kinds import begin
from onefilling.makers import is_tight, made, puzzle_from
from onefilling.texts import kind_text
from onefilling.turns import keeps, least_of, turned_puzzle

SQUARE = (2, 2, 2, (("unlike", (0, 1)), ("unlike", (0, 2)), ("unlike", (1, 3)), ("unlike", (2, 3))))
LATIN = latin(4, 4)
FILLED = (1, 2, 3, 4, 3, 4, 1, 2, 2, 1, 4, 3, 4, 3, 2, 1)
# Each filling is told by all four places alone; the last rule lets no turn but one keep the kind.
FREE = (2, 2, 6, (("sum", (0,), 0, 99),))
ONE = ((0, 1),)


def full(*worths):
    return tuple(enumerate(worths))


def free_givens(many):
    """So many tight puzzles of FREE."""
    fillings = itertools.product(range(1, 7), repeat=4)
    return [full(*filling) for filling in fillings if filling[1] < filling[2]][:many]


def name_at(at):
    return "".join("abcdefghij"[int(figure)] for figure in f"{at:03d}")


def free_book(many):
    return (FREE, tuple((name_at(at), givens) for at, givens in enumerate(free_givens(many))))


def some_books(seed, many):
    """Books of small kinds, made of tight puzzles by any orders."""
    dice = random.Random(seed)
    for _, kind, filling in filled_kinds(seed, many):
        book = (kind, ())
        for _ in range(6):
            filling = dice.choice(fillings_plainly((kind, ())))
            lot = made(kind, filling, 12, tuple(dice.sample(range(len(filling)), len(filling))))
            name = "".join(dice.choice("abyz") for _ in range(dice.randint(1, 12)))
            wrong = error_of(with_puzzle, book, name, puzzle_from(kind, filling, lot)[1])
            if wrong is None:
                book = with_puzzle(book, name, puzzle_from(kind, filling, lot)[1])
        yield dice, book


def is_book_plainly(book):
    """Whether the pair of a kind and entries of the right form is a book, by the words of [32]."""
    kind, entries = book
    names = [name for name, givens in entries]
    if list(entries) != sorted(entries) or len(set(names)) < len(names) or len(entries) > 60:
        return False
    if not all(len(name) in range(1, 13) and set(name) <= set("abcdefghijklmnopqrstuvwxyz") for name in names):
        return False
    leasts = [least_of((kind, givens)) for name, givens in entries]
    return len(set(leasts)) == len(leasts) and all(is_tight((kind, givens)) for name, givens in entries)


class IsBook(unittest.TestCase):
    def test_right_ones(self):
        for book in ((SQUARE, ()), (SQUARE, (("one", ONE),)), (SQUARE, (("z", ((3, 2),)),)), (FREE, ()),
                     (FREE, (("a", full(1, 1, 1, 1)), ("b", full(1, 1, 1, 2)))), free_book(60),
                     (LATIN, ()), (SQUARE, (("abcdefghijkl", ONE),))):
            self.assertIs(is_book(book), True, book)
            self.assertEqual(book_of(book_text(book)), book)

    def test_wrong_ones_with_the_index_of_the_first_wrong_entry(self):
        two = (("a", full(1, 1, 1, 1)), ("b", full(1, 1, 1, 2)))
        for book, index in (
                (None, None), (SQUARE, None), ([SQUARE, ()], None), ((SQUARE, []), None), ((SQUARE,), None), ((SQUARE, (), ()), None),
                ((SQUARE[:3], ()), None), ((SQUARE, None), None), ("", None), ((SQUARE, "one"), None), ({}, None), ((), None),
                ((SQUARE, (("one", ()),)), 0), ((SQUARE, (("one", ((0, 1), (3, 1))),)), 0), ((SQUARE, (("one", ((0, 3),)),)), 0),
                ((SQUARE, (("", ONE),)), 0), ((SQUARE, (("abcdefghijklm", ONE),)), 0), ((SQUARE, (("One", ONE),)), 0),
                ((SQUARE, (("o1", ONE),)), 0), ((SQUARE, (("o n", ONE),)), 0), ((SQUARE, (("\u00e4", ONE),)), 0),
                ((SQUARE, ((b"one", ONE),)), 0), ((SQUARE, ((None, ONE),)), 0), ((SQUARE, (["one", ONE],)), 0),
                ((SQUARE, (("one", [(0, 1)]),)), 0), ((SQUARE, (("one", ((True, 1),)),)), 0), ((SQUARE, (("one",),)), 0),
                ((SQUARE, (("one", ONE, ()),)), 0), ((SQUARE, ("one", ONE)), 0), ((SQUARE, (None, None)), 0),
                ((SQUARE, (("one", ONE), ("two", ((3, 2),)))), 1), ((SQUARE, (("one", ONE), ("one", ONE))), 1),
                ((SQUARE, (("one", ONE), ("two", ()))), 1), ((SQUARE, (("one", ONE), None)), 1),
                ((FREE, two[::-1]), 1), ((FREE, two + (("b", full(1, 1, 1, 3)),)), 2), ((FREE, two + (("a", ()),)), 2),
                ((FREE, two + (("ab", full(1, 1, 1, 3)),)), 2), ((FREE, two + (("c", full(1, 1, 1, 2)),)), 2),
                ((FREE, two + (("c", full(2, 1, 1)),)), 2), (free_book(61), None), (free_book(80), None)):
            self.assertIs(is_book(book), False, book)
            for function, more in ((with_puzzle, ("new", ())), (without, ("a",)), (book_text, ())):
                wrong = error_of(function, book, *more)
                self.assertEqual((wrong.kind, wrong.told), (errors.InvalidBook, {"index": index}), book)

    def test_any_value(self):
        for value in STRANGE:
            for book in (value, (SQUARE, value), (value, ()), (SQUARE, (value,)), (SQUARE, (("one", value),)),
                         (SQUARE, ((value, ONE),)), (SQUARE, (("one", ONE), value)), (SQUARE, ((("kind", ONE), value)))):
                self.assertIs(is_book(book), book == (SQUARE, ()) or book == (SQUARE, (("kind", ONE),))
                              or book == (SQUARE, (("unlike", ONE),)), book)
        self.assertIs(is_book(nested(58, SQUARE)), False)

    def test_60_entries_and_a_61st(self):
        self.assertIs(is_book(free_book(59)), True)
        self.assertIs(is_book(free_book(60)), True)
        self.assertIs(is_book(free_book(61)), False)
        wrong = error_of(book_text, free_book(61))
        self.assertEqual((wrong.kind, wrong.told), (errors.InvalidBook, {"index": None}))

    def test_of_small_kinds(self):
        told = {}
        for dice, book in some_books(601, 60):
            told[len(book[1])] = told.get(len(book[1]), 0) + 1
            self.assertTrue(is_book(book))
            self.assertTrue(is_book_plainly(book))
            for _ in range(6):
                some = [list(entry) for entry in book[1]]
                if some:
                    other = dice.choice(some)
                    other[dice.randint(0, 1)] = dice.choice(some)[dice.randint(0, 1)]
                    entries = tuple(tuple(entry) for entry in dice.sample(some, len(some)))
                    if all(type(name) is str and type(givens) is tuple for name, givens in entries):
                        self.assertIs(is_book((book[0], entries)), is_book_plainly((book[0], entries)))
        self.assertTrue(any(many > 2 for many in told), told)


class Changed(unittest.TestCase):
    def test_with_and_without(self):
        book = (FREE, ())
        for name, givens in (("m", full(1, 1, 1, 1)), ("b", full(1, 1, 1, 2)), ("z", full(1, 1, 1, 3)), ("ba", full(2, 1, 1, 1))):
            before = book
            book = with_puzzle(book, name, givens)
            self.assertTrue(is_book(book))
            self.assertEqual(book, (FREE, tuple(sorted(before[1] + ((name, givens),)))))
            self.assertEqual(without(book, name), before)
        self.assertEqual([name for name, givens in book[1]], ["b", "ba", "m", "z"])
        for name in ("ba", "z", "b", "m"):
            book = without(book, name)
        self.assertEqual(book, (FREE, ()))

    def test_names(self):
        for name in ("a", "z", "abcdefghijkl", "zzzzzzzzzzzz"):
            self.assertEqual(with_puzzle((SQUARE, ()), name, ONE), (SQUARE, ((name, ONE),)))
        for name in ("", "abcdefghijklm", "A", "a1", "a b", " a", "a\n", "\u00e9", "a-b", None, 1, b"a", ("a",), ["a"], True, "`", "{"):
            for function, more in ((with_puzzle, (ONE,)), (without, ())):
                wrong = error_of(function, (SQUARE, ()), name, *more)
                self.assertEqual((wrong.kind, wrong.told), (errors.InvalidName, {"given": name}), name)

    def test_givens(self):
        for givens in (None, [], (), ((0, 1), (3, 1)), ((0, 1), (3, 2)), ((0, 3),), (0, 1), ((4, 1),), ((1, 1), (0, 2)), "0=1",
                       ((True, 1),), ((0, 1), (1, 2), (2, 2), (3, 1)), {0: 1}, ((0, 1, 1),), full(1, 1, 1, 1)):
            wrong = error_of(with_puzzle, (SQUARE, ()), "one", givens)
            self.assertEqual((wrong.kind, wrong.told), (errors.InvalidPuzzle, {"given": givens}), givens)

    def test_what_is_told_last_and_in_which_order(self):
        book = with_puzzle((SQUARE, ()), "one", ONE)
        for name, givens, kind, told in (
                ("one", ((3, 2),), errors.InvalidName, {"given": "one"}), ("two", ((3, 2),), errors.Alike, {"given": "one"}),
                ("two", ONE, errors.Alike, {"given": "one"}), ("two", ((0, 2),), errors.Alike, {"given": "one"}),
                ("one", (), errors.InvalidPuzzle, {"given": ()}), ("One", (), errors.InvalidName, {"given": "One"})):
            wrong = error_of(with_puzzle, book, name, givens)
            self.assertEqual((wrong.kind, wrong.told), (kind, told))
        wrong = error_of(without, book, "two")
        self.assertEqual((wrong.kind, wrong.told), (errors.InvalidName, {"given": "two"}))
        full_book = free_book(60)
        new = full(6, 1, 1, 6)
        wrong = error_of(with_puzzle, full_book, "zzz", new)
        self.assertEqual((wrong.kind, wrong.told), (errors.InvalidBook, {"index": None}))
        wrong = error_of(with_puzzle, full_book, name_at(7), new)
        self.assertEqual((wrong.kind, wrong.told), (errors.InvalidName, {"given": name_at(7)}))
        wrong = error_of(with_puzzle, full_book, "zzz", full_book[1][9][1])
        self.assertEqual((wrong.kind, wrong.told), (errors.Alike, {"given": name_at(9)}))
        self.assertEqual(len(with_puzzle(without(full_book, name_at(0)), "zzz", new)[1]), 60)

    def test_alike_by_each_turn_that_keeps_the_kind(self):
        lot = made(LATIN, FILLED, 12, tuple(range(16)))
        puzzle = puzzle_from(LATIN, FILLED, lot)
        book = with_puzzle((LATIN, ()), "first", puzzle[1])
        dice = random.Random(602)
        for how in range(8):
            turn = (how, tuple(dice.sample((1, 2, 3, 4), 4)))
            self.assertTrue(keeps(LATIN, turn))
            wrong = error_of(with_puzzle, book, "other", turned_puzzle(puzzle, turn)[1])
            self.assertEqual((wrong.kind, wrong.told), (errors.Alike, {"given": "first"}))


class Texts(unittest.TestCase):
    def test_word_for_word(self):
        rows = "floor 2 2\nworths 2\nunlike 0 1\nunlike 0 2\nunlike 1 3\nunlike 2 3\n"
        self.assertEqual(book_text((SQUARE, ())), rows)
        self.assertEqual(book_text((SQUARE, (("one", ((0, 1),)),))), rows + "puzzle one 0=1\n")
        free = "floor 2 2\nworths 6\nsum 0 : 0 99\n"
        book = (FREE, (("a", full(1, 2, 3, 4)), ("b", full(2, 2, 3, 4))))
        self.assertEqual(book_text(book), free + "puzzle a 0=1 1=2 2=3 3=4\npuzzle b 0=2 1=2 2=3 3=4\n")
        told = (1, 2, 2, (("sum", (0, 1), 2, 2),))
        self.assertEqual(book_text((told, (("none", ()),))), "floor 1 2\nworths 2\nsum 0 1 : 2 2\npuzzle none\n")
        self.assertEqual(book_of("floor 1 2\nworths 2\nsum 0 1 : 2 2\npuzzle none\n"), (told, (("none", ()),)))
        last = made(LATIN, FILLED, 12, tuple(range(16)))
        row = book_text((LATIN, (("last", puzzle_from(LATIN, FILLED, last)[1]),))).split("\n")[-2]
        self.assertEqual(row, "puzzle last " + " ".join(f"{place}={FILLED[place]}" for place in last))
        self.assertIn("10=4" if 10 in last else "15=1", row)

    def test_there_and_back(self):
        many = 0
        for dice, book in some_books(603, 80):
            text = book_text(book)
            self.assertEqual(book_of(text), book)
            self.assertTrue(text.startswith(kind_text(book[0])))
            self.assertEqual(len(text.split("\n")), len(kind_text(book[0]).split("\n")) + len(book[1]))
            many += len(book[1]) > 1
        self.assertGreater(many, 20)
        self.assertEqual(book_of(book_text(free_book(60))), free_book(60))

    def test_the_line_of_a_wrong_row(self):
        rows = "floor 2 2\nworths 6\nsum 0 : 0 99\n"
        two = rows + "puzzle a 0=1 1=2 2=3 3=4\npuzzle b 0=2 1=2 2=3 3=4\n"
        self.assertTrue(is_book(book_of(two)))
        for text, line in (
                (None, None), (b"", None), (["floor 2 2"], None), ("", 0), ("floor 2 2", 0), ("floor 2 2\n", 1),
                ("floor 2 2\nworths 7\n", 1), ("floor 2 2\nworths 6\nsum 0 : 0 100\n", 2), (two[:-1], 4), (two + "\n", 5),
                (two + "row . .\n", 5), (two + "sum 0 : 0 99\n", 5), (two + " ", 5), (two + "puzzle c", 5), ("\n" + two, 0),
                (two + "puzzle c\n", 5), (two + "puzzle c 0=3 1=2 2=3\n", 5), (two + "puzzle c 0=3 1=2 2=3 3=4 \n", 5),
                (two + "puzzle c  0=3 1=2 2=3 3=4\n", 5), (two + "puzzle c 0=3 1=2 2=3 3=04\n", 5),
                (two + "puzzle c 00=3 1=2 2=3 3=4\n", 5), (two + "puzzle c 0=3 1=2 3=4 2=3\n", 5),
                (two + "puzzle c 0=3 1=2 2=3 3=4 3=4\n", 5), (two + "puzzle c 0=7 1=2 2=3 3=4\n", 5),
                (two + "puzzle c 0=3 1=2 2=3 4=4\n", 5), (two + "puzzle c 0:3 1=2 2=3 3=4\n", 5),
                (two + "puzzle c 0==3 1=2 2=3 3=4\n", 5), (two + "puzzle c 0=3= 1=2 2=3 3=4\n", 5),
                (two + "puzzle c 0=3,1=2 2=3 3=4\n", 5), (two + "puzzle C 0=3 1=2 2=3 3=4\n", 5),
                (two + "puzzle 0=3 1=2 2=3 3=4\n", 5), (two + "puzzle\n", 5), (two + "puzzle \n", 5), (two + "puzzle  0=3\n", 5),
                (two + "Puzzle c 0=3 1=2 2=3 3=4\n", 5), (two + "puzzle c 0=3 1=2 2=3 3=\u0664\n", 5),
                (two + "puzzle c 0=3 1=2 2=3 3=" + "4" * 5000 + "\n", 5), (two + "puzzle c 0=3 1=2 2=3 3=4\r\n", 5),
                (two + "puzzle abcdefghijklm 0=3 1=2 2=3 3=4\n", 5), (two + "puzzle c 0=-3 1=2 2=3 3=4\n", 5),
                # What would make it no book: entries out of order, a name twice, alike, not tight.
                (two + "puzzle aa 0=3 1=2 2=3 3=4\n", 5), (two + "puzzle b 0=3 1=2 2=3 3=4\n", 5),
                (two + "puzzle c 0=2 1=2 2=3 3=4\n", 5), (two + "puzzle c 0=1 1=2 2=3 3=4\npuzzle\n", 5),
                (two + "puzzle c 0=1 1=3 2=2 3=4\n", 5), (two.replace("puzzle a", "puzzle c"), 4)):
            wrong = error_of(book_of, text)
            self.assertIsNotNone(wrong, text)
            self.assertEqual((wrong.kind, wrong.told), (errors.InvalidText, {"line": line}), text)
        self.assertEqual(len(book_of(two + "puzzle c 0=3 1=2 2=3 3=4\n")[1]), 3)
        rows = "floor 2 2\nworths 2\nunlike 0 1\nunlike 0 2\nunlike 1 3\nunlike 2 3\npuzzle one 0=1\n"
        self.assertEqual(error_of(book_of, rows + "puzzle two 3=2\n").told, {"line": 7})
        self.assertEqual(error_of(book_of, rows + "puzzle two 1=1\n").told, {"line": 7})

    def test_the_61st_row_of_an_entry_is_none(self):
        text = book_text(free_book(60))
        more = "puzzle zzz 0=6 1=1 2=2 3=6\n"
        self.assertEqual(len(book_of(text.replace("puzzle " + name_at(59), "puzzle zyz"))[1]), 60)
        wrong = error_of(book_of, text + more)
        self.assertEqual((wrong.kind, wrong.told), (errors.InvalidText, {"line": 63}))

    def test_unlike_books_have_unlike_texts(self):
        texts = {}
        for dice, book in some_books(604, 60):
            for one in [book] + [without(book, name) for name, givens in book[1]]:
                self.assertEqual(texts.setdefault(book_text(one), one), one)
        self.assertGreater(len(texts), 60)

    def test_lines_left_out_doubled_and_exchanged(self):
        for dice, book in some_books(605, 30):
            rows = book_text(book).split("\n")[:-1]
            first = len(rows) - len(book[1])
            for at in range(first, len(rows)):
                rest = rows[:at] + rows[at + 1:]
                told = book_of("\n".join(rest) + "\n")
                self.assertEqual(told, without(book, book[1][at - first][0]))
                wrong = error_of(book_of, "\n".join(rows[:at + 1] + rows[at:]) + "\n")
                self.assertEqual((wrong.kind, wrong.told), (errors.InvalidText, {"line": at + 1}))
                if at > first:
                    exchanged = rows[:at - 1] + [rows[at], rows[at - 1]] + rows[at + 1:]
                    wrong = error_of(book_of, "\n".join(exchanged) + "\n")
                    self.assertEqual((wrong.kind, wrong.told), (errors.InvalidText, {"line": at}))


class Tight(unittest.TestCase):
    def test_the_puzzles_of_a_book_are_tight_and_unlike(self):
        for dice, book in some_books(606, 40):
            for name, givens in book[1]:
                self.assertTrue(is_tight((book[0], givens)))
                self.assertEqual(len(begin((book[0], givens))), book[0][0] * book[0][1])
            self.assertEqual(len({least_of((book[0], givens)) for name, givens in book[1]}), len(book[1]))


if __name__ == "__main__":
    unittest.main()
