"""Texts of kinds, puzzles and sheets: [12]."""
import random
import re
import unittest

from helper import FLOORS, SORTS, STRANGE, error_of, some_givens, some_rule, some_sheet

from onefilling import errors
from onefilling.kinds import is_kind, is_puzzle, is_rule
from onefilling.texts import kind_of, kind_text, puzzle_of, puzzle_text, sheet_text

SQUARE = (2, 2, 2, (("unlike", (0, 1)), ("unlike", (0, 2)), ("unlike", (1, 3)), ("unlike", (2, 3))))
# Each sort of rules, and its row.
ROWS = (
    (("unlike", (0, 1)), "unlike 0 1"),
    (("unlike", (0, 9, 10, 15)), "unlike 0 9 10 15"),
    (("sum", (0, 1, 2), 4, 5), "sum 0 1 2 : 4 5"),
    (("sum", (3,), 0, 99), "sum 3 : 0 99"),
    (("below", 0, 1), "below 0 1"),
    (("below", 12, 3), "below 12 3"),
    (("steps", 0, 1, 1, 2), "steps 0 1 : 1 2"),
    (("count", (0, 1), (1, 3), 1, 2), "count 0 1 : 1 3 : 1 2"),
    (("count", (7,), (6,), 0, 0), "count 7 : 6 : 0 0"),
    (("words", (0, 1), ((1, 2), (2, 1))), "words 0 1 : 12 21"),
    (("words", (5,), ((1,), (4,), (6,))), "words 5 : 1 4 6"),
    (("words", tuple(range(15, -1, -1)), ((1,) * 16,)), "words 15 14 13 12 11 10 9 8 7 6 5 4 3 2 1 0 : 1111111111111111"),
    (("runs", (0, 1, 2), 1, (2,)), "runs 0 1 2 : 1 : 2"),
    (("runs", (0, 1, 2), 1, ()), "runs 0 1 2 : 1 :"),
    (("runs", (2, 1, 0), 6, (1, 16, 3)), "runs 2 1 0 : 6 : 1 16 3"),
    (("seen", (0, 1), 2), "seen 0 1 : 2"),
    (("seen", (9, 0), 16), "seen 9 0 : 16"),
    (("joined", (1, 2)), "joined 1 2"),
    (("joined", (6,)), "joined 6"),
)
# Rows that are none of a kind of 4 by 4 places and 6 worths: by their form, or because they tell no rule.
WRONG = (
    "", " ", ":", "unlike", "unlike 0", "unlike 1 0", "unlike 0 0", "unlike 0 16", "unlike 0 1 ", " unlike 0 1",
    "unlike  0 1", "unlike 0  1", "unlike 0 01", "unlike 00 1", "unlike 0 1 :", "unlike : 0 1", "unlike 0 : 1",
    "unlike 0,1", "unlike -1 0", "unlike +0 1", "unlike 0 1.", "unlike 0 1\r", "unlike 0\t1", "unlike\t0 1", "Unlike 0 1",
    "UNLIKE 0 1", "unlike 0 x", "unlike 0 \u0661", "unlike 0 \u00b9", "unlike 0 " + "1" * 5000, "unlike 0_1 2",
    "unlike 0 1_0", "unlike 0 1\x0b", "unlike 0 1\x0cbelow 0 1", "unlike 0 1\u2028", "unlike\u00a00 1",
    "sum 0 1", "sum 0 1 :", "sum 0 1 : 4", "sum 0 1 : 4 5 6", "sum : 4 5", "sum 0 1 4 5", "sum 0 1 : 5 4", "sum 0 : 0 100",
    "sum 0 1:4 5", "sum 0 1 :4 5", "sum 0 1: 4 5", "sum 0 1 : 4 : 5", "sum 0 1 : : 4 5", "sum 0 1 : 04 5", "sum 0 : -0 5",
    "below 0", "below 0 0", "below 0 1 2", "below 0 : 1", "below 0 16", "below 0 1 :",
    "steps 0 1 1 2", "steps 0 : 1 : 1 2", "steps 0 1 1 : 2", "steps 0 1 : 2 1", "steps 0 0 : 1 2", "steps 0 : 1 1 2",
    "count 0 1 : 1 3", "count 0 1 : 3 1 : 1 2", "count 0 1 : : 1 2", "count 0 1 : 7 : 1 2", "count 0 1 : 1 : 2 1",
    "count 0 1 : 1 : 2", "count : 1 : 0 1",
    "words 0 1 : 21 12", "words 0 1 : 12 12", "words 0 1 : 1 2", "words 0 1 : 12 ", "words 0 1 :", "words 0 1 : 10",
    "words 0 1 : 17", "words 0 1 : 012", "words : 1", "words 0 1 : 12 : 21", "words 0 1 : 1,2", "words 0 : 1 : 2",
    "runs 0 1 2 : 1", "runs 0 1 2 : 1 : ", "runs 0 1 2 : : 2", "runs 0 1 2 : 1 2 : 2", "runs 0 1 2 : 1 : 0",
    "runs 0 1 2 : 1 : 17", "runs 0 1 2 : 7 : 1", "runs 0 1 2 : 1 : 1 1 1 1 1 1 1 1 1", "runs 0 1 0 : 1 : 1", "runs : 1 : 1",
    "seen 0 1 :", "seen 0 1 : 17", "seen 0 1 : 1 2", "seen 0 0 : 1", "seen : 1", "seen 0 1 : 01",
    "joined", "joined 2 1", "joined 0", "joined 7", "joined 1 :", "joined 1 1", "joined : 1", "joined ",
    "floor 1 2", "worths 2", "row . .", "puzzle one 0=1", "line 0 1", "# unlike 0 1", "unlike unlike 0 1",
)


def some_kind_of_all_sorts(dice):
    rows, columns = dice.choice(FLOORS + ((4, 4), (3, 4), (4, 2)))
    worths = dice.randint(2, 6)
    sorts = SORTS if rows * columns > 1 else ("sum", "count", "words", "runs", "seen", "joined")
    rules = [some_rule(dice, rows * columns, worths, dice.choice(sorts)) for _ in range(dice.randint(0, 12))]
    return rows, columns, worths, tuple(rules)


def some_puzzle(dice):
    kind = some_kind_of_all_sorts(dice)
    filling = [dice.randint(1, kind[2]) for _ in range(kind[0] * kind[1])]
    return kind, some_givens(dice, filling, dice.randint(0, len(filling)))


def rule_plainly(row, places, worths):
    """Whether the row is that of a rule, by its form, and by what the rule is that it then tells."""
    number = r"(?:0|[1-9][0-9]?)"
    some, two = rf"{number}(?: {number})*", rf"{number} {number}"
    forms = (
        ("unlike", rf"({some})"), ("sum", rf"({some}) : ({number}) ({number})"), ("below", rf"({number}) ({number})"),
        ("steps", rf"({number}) ({number}) : ({number}) ({number})"),
        ("count", rf"({some}) : ({some}) : ({number}) ({number})"), ("words", rf"({some}) : ([0-9]+(?: [0-9]+)*)"),
        ("runs", rf"({some}) : ({number}) :((?: {number})*)"), ("seen", rf"({some}) : ({number})"), ("joined", rf"({some})"),
    )
    tuples = {"unlike": (0,), "sum": (0,), "count": (0, 1), "words": (0,), "runs": (0, 2), "seen": (0,), "joined": (0,)}
    for sort, form in forms:
        told = re.fullmatch(rf"{sort} {form}", row)
        if told and row.isascii():
            parts = [tuple(map(int, part.split())) if at in tuples.get(sort, ()) else part
                     for at, part in enumerate(told.groups())]
            if sort == "words":
                parts[1] = tuple(tuple(map(int, word)) for word in parts[1].split(" "))
            return is_rule(places, worths, (sort, *[int(part) if type(part) is str else part for part in parts]))
    return False


def wrong_line(text, with_signs):
    """The line that is told for the text of a kind, of a puzzle; None if it is one. Row by row, by the words of [12]."""
    *rows, behind = text.split("\n")
    if not rows or not re.fullmatch("floor [1-4] [1-4]", rows[0]):
        return 0
    if len(rows) < 2 or not re.fullmatch("worths [2-6]", rows[1]):
        return 1
    high, wide, worths = int(rows[0][6]), int(rows[0][8]), int(rows[1][7])
    at = 2
    while at < len(rows) and at < 14 and rule_plainly(rows[at], high * wide, worths):
        at += 1
    for _ in range(high if with_signs else 0):
        if at == len(rows) or not re.fullmatch(f"row( [1-{worths}.]){{{wide}}}", rows[at]):
            return at
        at += 1
    return None if at == len(rows) and behind == "" else at


def changed(dice, text):
    """The text with a small change somewhere."""
    at = dice.randrange(len(text) + 1)
    rows = text.split("\n")
    line = dice.randrange(len(rows))
    return dice.choice((
        text[:at] + text[at + 1:], text[:at] + dice.choice("0123456789 :.\n\rxrow") + text[at:],
        text[:at] + dice.choice("0123456789 :.\n") + text[at + 1:], text[:at],
        "\n".join(rows[:line] + rows[line + 1:]), "\n".join(rows[:line] + rows[line:line + 1] + rows[line:]),
        text + dice.choice(("\n", " ", "row .\n", "below 0 1\n", "joined 1\n")),
    ))


class Refusing(unittest.TestCase):
    """How texts are refused."""

    def refused(self, function, text, line):
        told = error_of(function, text)
        self.assertIsNotNone(told, repr(text))
        self.assertEqual((told.kind, told.told), (errors.InvalidText, {"line": line}), repr(text))

    def as_plainly(self, function, text, line, back):
        if line is None:
            self.assertIsNone(error_of(function, text), repr(text))
            self.assertEqual(back(function(text)), text)
        else:
            self.refused(function, text, line)
        return line is None


class Kinds(Refusing):
    def test_the_row_of_each_sort(self):
        for rule, row in ROWS:
            kind = (4, 4, 6, (rule,))
            self.assertEqual(kind_text(kind), f"floor 4 4\nworths 6\n{row}\n")
            self.assertEqual(kind_of(f"floor 4 4\nworths 6\n{row}\n"), kind)
        rules = tuple(rule for rule, row in ROWS[:12])
        self.assertEqual(kind_text((4, 4, 6, rules)), "floor 4 4\nworths 6\n" + "".join(row + "\n" for _, row in ROWS[:12]))

    def test_no_rules_and_one_place(self):
        for rows in (1, 2, 3, 4):
            for columns in (1, 2, 3, 4):
                for worths in (2, 3, 4, 5, 6):
                    text = f"floor {rows} {columns}\nworths {worths}\n"
                    self.assertEqual(kind_text((rows, columns, worths, ())), text)
                    self.assertEqual(kind_of(text), (rows, columns, worths, ()))
        self.assertEqual(kind_text((1, 1, 2, (("words", (0,), ((2,),)), ("runs", (0,), 2, ())))),
                         "floor 1 1\nworths 2\nwords 0 : 2\nruns 0 : 2 :\n")

    def test_kinds_and_texts_are_one_to_one(self):
        dice = random.Random(81)
        told = {}
        for _ in range(500):
            kind = some_kind_of_all_sorts(dice)
            text = kind_text(kind)
            self.assertEqual(kind_of(text), kind)
            self.assertEqual(told.setdefault(text, kind), kind)
            self.assertIsNone(wrong_line(text, False))
        self.assertGreater(len(told), 400)

    def test_up_to_12_rules(self):
        rows = ["floor 2 2", "worths 3"] + ["below 0 1"] * 12
        text = "\n".join(rows) + "\n"
        self.assertEqual(kind_of(text), (2, 2, 3, (("below", 0, 1),) * 12))
        self.refused(kind_of, text + "below 0 1\n", 14)
        self.refused(kind_of, text + "below 0 1", 14)
        self.refused(kind_of, text + "\n", 14)
        self.refused(puzzle_of, text + "below 0 1\nrow . .\nrow . .\n", 14)
        self.assertEqual(puzzle_of(text + "row . .\nrow 3 .\n")[1], ((2, 3),))

    def test_wrong_rows_of_rules(self):
        for row in WRONG:
            for ahead in ([], ["below 0 1"], ["sum 0 : 0 9"] * 11):
                text = "\n".join(["floor 4 4", "worths 6"] + ahead + [row, "joined 1"]) + "\n"
                self.refused(kind_of, text, 2 + len(ahead))
                self.refused(puzzle_of, text, 2 + len(ahead))

    def test_rules_that_are_none_of_this_kind(self):
        for row in ("unlike 0 4", "sum 4 : 1 2", "below 4 0", "count 0 : 4 : 0 1", "words 0 : 4", "runs 0 : 4 :",
                    "seen 0 1 2 3 4 : 1", "joined 4", "joined 1 2 3 4"):
            self.refused(kind_of, f"floor 2 2\nworths 3\n{row}\n", 2)
        self.refused(kind_of, "floor 1 1\nworths 3\nunlike 0 1\n", 2)
        self.refused(kind_of, "floor 1 2\nworths 2\nbelow 0 0\n", 2)

    def test_wrong_first_rows(self):
        for row in ("", "floor", "floor 2", "floor 2 2 2", "floor 0 2", "floor 2 5", "floor 02 2", "floor  2 2", "floor 2 2 ",
                    " floor 2 2", "floor 2,2", "Floor 2 2", "floor 2 x", "worths 2", "floor 2\t2", "floor 2 2\r",
                    "floor 2 : 2", "floor \u0662 2", "floor -2 2", "floor 2 16"):
            self.refused(kind_of, f"{row}\nworths 2\n", 0)
            self.refused(puzzle_of, f"{row}\nworths 2\nrow . .\nrow . .\n", 0)
        for row in ("", "worths", "worths 1", "worths 7", "worths 02", "worths 2 3", "worths  2", "worths 2 ", " worths 2",
                    "worth 2", "floor 2 2", "worths x", "worths 2\r", "Worths 2", "worths -2", "worths 10"):
            self.refused(kind_of, f"floor 2 2\n{row}\n", 1)
            self.refused(puzzle_of, f"floor 2 2\n{row}\nrow . .\nrow . .\n", 1)

    def test_rows_that_are_due(self):
        self.refused(kind_of, "", 0)
        self.refused(kind_of, "\n", 0)
        self.refused(kind_of, "floor 2 2", 0)
        self.refused(kind_of, "floor 2 2\n", 1)
        self.refused(kind_of, "floor 2 2\nworths 3", 1)
        self.refused(kind_of, "floor 2 2\nworths 3\nbelow 0 1", 2)
        self.refused(kind_of, "floor 2 2\nworths 3\n\n", 2)
        self.refused(kind_of, "floor 2 2\nworths 3\nbelow 0 1\n\n", 3)
        self.refused(kind_of, "floor 2 2\nworths 3\nbelow 0 1\n ", 3)
        self.refused(kind_of, "\nfloor 2 2\nworths 3\n", 0)
        self.refused(kind_of, "floor 2 2\n\nworths 3\n", 1)
        self.refused(kind_of, "floor 2 2\r\nworths 3\r\n", 0)

    def test_no_texts(self):
        for function in (kind_of, puzzle_of):
            for value in STRANGE:
                told = error_of(function, value)
                line = 0 if type(value) is str else None
                self.assertEqual((told.kind, told.told), (errors.InvalidText, {"line": line}), repr(value))
            self.refused(function, "x" * 20000, 0)
            self.refused(function, "floor 2 2\nworths 3\nunlike 0 " + "1" * 19000 + "\n", 2)
            self.refused(function, "floor 2 2\nworths 3\nwords 0 : " + "1" * 19000 + "\n", 2)
            self.refused(function, "floor 2 2\nworths 3\nsum " + ": " * 9000 + "\n", 2)
            self.refused(function, b"floor 2 2\nworths 3\n", None)
            self.refused(function, ["floor 2 2", "worths 3"], None)

    def test_the_first_wrong_row_of_texts_that_are_changed(self):
        dice = random.Random(82)
        told = [0, 0]
        for _ in range(3000):
            kind = some_kind_of_all_sorts(dice)
            text = changed(dice, kind_text(kind))
            told[self.as_plainly(kind_of, text, wrong_line(text, False), kind_text)] += 1
        self.assertTrue(min(told) > 300, told)


class Puzzles(Refusing):
    def test_by_hand(self):
        self.assertEqual(puzzle_text((SQUARE, ((0, 1), (3, 2)))), kind_text(SQUARE) + "row 1 .\nrow . 2\n")
        self.assertEqual(puzzle_text(((1, 1, 6, ()), ())), "floor 1 1\nworths 6\nrow .\n")
        self.assertEqual(puzzle_text(((3, 1, 6, ()), ((0, 6), (1, 1), (2, 3)))), "floor 3 1\nworths 6\nrow 6\nrow 1\nrow 3\n")
        self.assertEqual(puzzle_text(((1, 4, 3, (("joined", (1,)),)), ((2, 3),))),
                         "floor 1 4\nworths 3\njoined 1\nrow . . 3 .\n")
        self.assertEqual(puzzle_of("floor 1 4\nworths 3\njoined 1\nrow . . 3 .\n"), ((1, 4, 3, (("joined", (1,)),)), ((2, 3),)))

    def test_kinds_and_texts_are_one_to_one(self):
        dice = random.Random(83)
        told = {}
        for _ in range(500):
            puzzle = some_puzzle(dice)
            text = puzzle_text(puzzle)
            self.assertEqual(puzzle_of(text), puzzle)
            self.assertTrue(is_puzzle(puzzle_of(text)))
            self.assertEqual(told.setdefault(text, puzzle), puzzle)
            self.assertIsNone(wrong_line(text, True))
            # A text of a puzzle is none of a kind, and the other way round.
            length = 2 + len(puzzle[0][3])
            self.refused(kind_of, text, length)
            self.refused(puzzle_of, kind_text(puzzle[0]), length)
        self.assertGreater(len(told), 400)

    def test_wrong_rows_of_signs(self):
        for row in ("", "row", "row .", "row . . .", "row  . .", "row . . ", " row . .", "row ..", "row . 0", "row . 4",
                    "row . 01", "row . 1.", "row . :", "row . -", "row . ,", "row\t. .", "Row . .", "row . \u0661", "row . .\r",
                    "row : . .", "row . row", "row 1 12", "row . x"):
            for ahead, behind in ((0, 1), (1, 0)):
                text = "floor 2 2\nworths 3\nbelow 0 1\n" + "row 1 .\n" * ahead + row + "\n" + "row . 3\n" * behind
                self.refused(puzzle_of, text, 3 + ahead)

    def test_rows_that_are_due(self):
        for many in range(4):
            text = "floor 3 2\nworths 3\nbelow 0 1\n" + "row . 1\n" * many
            if many < 3:
                self.refused(puzzle_of, text, 3 + many)
                self.refused(puzzle_of, text + "row . .", 3 + many)
            else:
                self.assertEqual(puzzle_of(text)[1], ((1, 1), (3, 1), (5, 1)))
                self.refused(puzzle_of, text + "row . .\n", 6)
                self.refused(puzzle_of, text + "\n", 6)
                self.refused(puzzle_of, text + " ", 6)
                self.refused(puzzle_of, text + "below 0 1\n", 6)
        self.refused(puzzle_of, "", 0)
        self.refused(puzzle_of, "floor 1 1\n", 1)
        self.refused(puzzle_of, "floor 1 1\nworths 2\n", 2)
        # Behind a row of signs no rule may stand.
        self.refused(puzzle_of, "floor 2 2\nworths 3\nrow . .\nbelow 0 1\nrow . .\n", 3)

    def test_the_first_wrong_row_of_texts_that_are_changed(self):
        dice = random.Random(84)
        told = [0, 0]
        for _ in range(3000):
            text = changed(dice, puzzle_text(some_puzzle(dice)))
            told[self.as_plainly(puzzle_of, text, wrong_line(text, True), puzzle_text)] += 1
        self.assertTrue(min(told) > 300, told)


class Sheets(unittest.TestCase):
    def test_by_hand(self):
        self.assertEqual(sheet_text(SQUARE, ((1,), (1, 2), (), (2,))), "1 12\n- 2\n")
        self.assertEqual(sheet_text((1, 1, 6, ()), ((1, 2, 3, 4, 5, 6),)), "123456\n")
        self.assertEqual(sheet_text((1, 1, 6, ()), ((),)), "-\n")
        self.assertEqual(sheet_text((3, 1, 4, ()), ((4,), (), (1, 3))), "4\n-\n13\n")
        self.assertEqual(sheet_text((1, 3, 4, ()), ((4,), (), (1, 3))), "4 - 13\n")

    def test_each_lot_in_its_place(self):
        dice = random.Random(85)
        for _ in range(200):
            kind = some_kind_of_all_sorts(dice)
            sheet = some_sheet(dice, kind, .2)
            rows = sheet_text(kind, sheet).split("\n")
            self.assertEqual((len(rows), rows[-1]), (kind[0] + 1, ""))
            words = [row.split(" ") for row in rows[:-1]]
            self.assertTrue(all(len(row) == kind[1] for row in words))
            told = [tuple(int(sign) for sign in word if sign != "-") for row in words for word in row]
            self.assertEqual(tuple(told), sheet)
            self.assertTrue(all((word == "-") == (lot == ()) for word, lot in zip(sum(words, []), sheet)))


class Kept(unittest.TestCase):
    def test_what_is_read_is_of_the_told_kind(self):
        kind = kind_of("floor 2 2\nworths 3\nsum 0 1 : 1 2\nwords 0 : 1 2\nruns 0 1 : 1 :\n")
        self.assertTrue(is_kind(kind))
        self.assertEqual(kind, (2, 2, 3, (("sum", (0, 1), 1, 2), ("words", (0,), ((1,), (2,))), ("runs", (0, 1), 1, ()))))
        puzzle = puzzle_of("floor 2 2\nworths 3\nrow . 2\nrow . .\n")
        self.assertEqual(puzzle, ((2, 2, 3, ()), ((1, 2),)))
        self.assertTrue(type(puzzle) is tuple and type(puzzle[1]) is tuple and type(puzzle[1][0]) is tuple)


if __name__ == "__main__":
    unittest.main()
