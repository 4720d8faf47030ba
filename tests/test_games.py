"""Games: moves that fit, sheets, grades, hints: [28] to [30]."""
import random
import unittest

from helper import (STRANGE, Listed, begin_plainly, error_of, fits_plainly, fitting_moves, grade_plainly, is_settled,
                    latin, listed, lots_for, make_plainly, nested, pairs_kind, some_game, some_givens, some_kind,
                    strikes_in, taken_plainly)

from onefilling import errors
from onefilling.fillings import the_filling
from onefilling.games import game_by_hints, grade_of, grades, hint, is_game, reasoned, sheets
from onefilling.hardness import hardness
from onefilling.kinds import begin

ALIKE = (1, 2, 2, (("steps", 0, 1, 0, 0), ("sum", (0, 1), 2, 3)))
SQUARE = (2, 2, 2, (("unlike", (0, 1)), ("unlike", (0, 2)), ("unlike", (1, 3)), ("unlike", (2, 3))))
FREE = (1, 2, 3, ())
UNDO = ("undo",)
# Moves that fit no sheet of ALIKE, and what is no move at all.
MISFITS = (("write", 0, 3), ("write", 2, 1), ("write", -1, 1), ("write", 0, 0), ("strike", 0, 3), ("strike", 2, 1),
           ("write", True, 1), ("write", 0, True), ("write", 0), ("write", 0, 1, 1), ("strike",), (), ("undo", 0),
           ("undo", ()), ("hint",), ("Write", 0, 1), ["write", 0, 1], "undo", None, 1, True, ("write", None, 1),
           ("write", 0, None), (0, 1), (b"undo",), ("write", 0, (1,)), ("write", "0", "1"), ("write", [0], 1), (None, 0, 1),
           ("write", 10 ** 399, 1), ("write", 0, 10 ** 399), ("undo", "undo"), {"undo": 1}, (("undo",),))


def some_puzzle(dice):
    kind = pairs_kind(dice) if dice.random() < .5 else some_kind(dice, 4)
    filling = [dice.randint(1, kind[2]) for _ in range(kind[0] * kind[1])]
    return kind, some_givens(dice, filling, dice.choice((0, 0, 0, 1, dice.randint(0, len(filling)))))


def puzzles(seed, many, most_places=6):
    """Small puzzles, and all fillings in their begin sheets; most of those that are not so hard are passed over."""
    dice = random.Random(seed)
    while many > 0:
        puzzle = some_puzzle(dice)
        if puzzle[0][0] * puzzle[0][1] <= most_places and (dice.random() < .15 or (hardness(puzzle) or 0) > 1):
            many -= 1
            yield dice, puzzle, Listed(puzzle[0], begin_plainly(puzzle))


def hint_plainly(right, sheet):
    """The hint at a sheet, by the words of [30]; None."""
    graded = [(grade_plainly(right, sheet, ("strike", *strike)), strike) for strike in strikes_in(sheet)
              if len(sheet[strike[0]]) > 1]
    told = sorted(one for one in graded if one[0] is not None)
    return ("strike", *told[0][1]) if told else None


class Fits(unittest.TestCase):
    def test_sheets_and_games_move_by_move(self):
        told = [0, 0]
        for dice, puzzle, right in puzzles(401, 150, 9):
            moves = some_game(dice, puzzle, dice.randint(0, 12))
            row = [begin_plainly(puzzle)]
            at_hand = [row[-1]]
            for move in moves:
                self.assertTrue(fits_plainly(row, move))
                row = make_plainly(row, move)
                at_hand.append(row[-1])
            self.assertTrue(is_game(puzzle, moves))
            self.assertEqual(sheets(puzzle, moves), tuple(at_hand))
            fitting = fitting_moves(row)
            places, worths = range(-1, len(right.sheet) + 1), range(8)
            for move in [UNDO] + [(word, place, worth) for word in ("write", "strike") for place in places for worth in worths]:
                right_one = move in fitting
                self.assertIs(is_game(puzzle, moves + (move,)), right_one, (puzzle, moves, move))
                told[right_one] += 1
                wrong = error_of(sheets, puzzle, moves + (move,))
                if right_one:
                    self.assertIsNone(wrong)
                else:
                    self.assertEqual((wrong.kind, wrong.told), (errors.InvalidMoves, {"index": len(moves)}))
        self.assertTrue(min(told) > 500, told)

    def test_what_fits(self):
        begun = (ALIKE, ())
        for moves, right in (
                ((), True), ((UNDO,), False), ((("write", 0, 1),), True), ((("strike", 0, 1),), True),
                ((("write", 0, 1), UNDO), True), ((("write", 0, 1), UNDO, UNDO), False),
                ((("write", 0, 1), ("write", 0, 1)), False), ((("write", 0, 1), ("strike", 0, 1)), False),
                ((("strike", 0, 2), ("strike", 0, 1)), False), ((("strike", 0, 2), ("write", 0, 1)), False),
                ((("strike", 0, 2), UNDO, ("strike", 0, 1), ("write", 1, 2), UNDO, UNDO, ("write", 0, 2)), True),
                ([("write", 0, 1)], False), (("write", 0, 1), False), ("undo", False), (None, False)):
            self.assertIs(is_game(begun, moves), right, moves)
        self.assertIs(is_game((ALIKE, ((0, 1),)), (("write", 0, 1),)), False)
        self.assertIs(is_game((ALIKE, ((0, 1),)), (("strike", 0, 1),)), False)
        self.assertIs(is_game((ALIKE, ((0, 1),)), (("write", 1, 1),)), True)
        self.assertIs(is_game(((1, 1, 6, ()), ()), tuple(("strike", 0, worth) for worth in (1, 3, 5, 2, 4))), True)
        self.assertIs(is_game(((1, 1, 6, ()), ()), tuple(("strike", 0, worth) for worth in (1, 3, 5, 2, 4, 6))), False)

    def test_what_is_no_move(self):
        for value in MISFITS:
            self.assertIs(is_game((ALIKE, ()), (value,)), False, value)
            for function in (sheets, grades, reasoned, hint):
                wrong = error_of(function, (ALIKE, ()), (("strike", 0, 2), value, value))
                self.assertEqual((wrong.kind, wrong.told), (errors.InvalidMoves, {"index": 1}), value)
            wrong = error_of(grade_of, ALIKE, ((1, 2), (1, 2)), value)
            self.assertIs(wrong.kind, errors.InvalidMove, value)
            self.assertIs(wrong.told["given"], value)

    def test_any_value(self):
        for value in STRANGE:
            self.assertIs(is_game((ALIKE, ()), value), value == ())
            self.assertIs(is_game((ALIKE, ()), (("strike", 0, 2), value)), False)
            self.assertIs(is_game((ALIKE, ()), (value, 0, 1)), False)
            self.assertIs(is_game((ALIKE, ()), (("strike", value, 1),)), value == 0 and type(value) is int
                          or value == 1 and type(value) is int)
        self.assertIs(is_game((ALIKE, ()), nested(58, UNDO)), False)

    def test_200_and_201_moves(self):
        there_and_back = (("strike", 0, 2), UNDO) * 101
        for many, right in ((198, True), (199, True), (200, True), (201, False), (202, False)):
            moves = there_and_back[:many]
            self.assertIs(is_game((ALIKE, ()), moves), right)
            for function in (sheets, grades, reasoned, hint):
                wrong = error_of(function, (ALIKE, ()), moves)
                if right:
                    self.assertIsNone(wrong)
                else:
                    self.assertEqual((wrong.kind, wrong.told), (errors.InvalidMoves, {"index": 200}))
        self.assertEqual(len(sheets((ALIKE, ()), there_and_back[:200])), 201)
        self.assertEqual(grades((ALIKE, ()), there_and_back[:200]), (2, 0) * 100)
        # One ahead of the 201st that does not fit is told first.
        wrong = error_of(sheets, (ALIKE, ()), there_and_back[:150] + (UNDO,) * 60)
        self.assertEqual(wrong.told, {"index": 150})


class Grades(unittest.TestCase):
    def test_against_all_fillings(self):
        told = {}
        tries = [rows[1:] for rows in listed(402, 120, .02, 3)]
        tries += [(puzzle[0], right.sheet, right) for dice, puzzle, right in puzzles(410, 60)]
        for kind, sheet, right in tries:
            for move in fitting_moves([sheet]):
                grade = grade_plainly(right, sheet, move)
                self.assertEqual(grade_of(kind, sheet, move), grade, (kind, sheet, move))
                told[grade] = told.get(grade, 0) + 1
                # None exactly if some filling of the kind in the sheet has such a worth.
                kept = any(set(enumerate(filling)) & set(taken_plainly(sheet, move))
                           for filling, met in right.told if len(met) == len(kind[3]))
                self.assertIs(grade is None, kept)
        self.assertTrue(all(told.get(grade, 0) > 5 for grade in (None, 0, 1, 2)), told)

    def test_of_games(self):
        told = [0, 0]
        for dice, puzzle, right in puzzles(403, 80):
            moves = some_game(dice, puzzle, dice.randint(0, 6))
            row, graded = [right.sheet], []
            for move in moves:
                graded.append(0 if move == UNDO else grade_plainly(right, row[-1], move))
                row = make_plainly(row, move)
            self.assertEqual(grades(puzzle, moves), tuple(graded), (puzzle, moves))
            greatest = None if None in graded else max(graded, default=0)
            self.assertEqual(reasoned(puzzle, moves), greatest)
            told[greatest is None] += 1
        self.assertTrue(min(told) > 15, told)

    def test_void_lots_and_settled_sheets(self):
        # With a void lot all follows without a rule.
        self.assertEqual(grade_of(ALIKE, ((1, 2), ()), ("strike", 0, 1)), 0)
        self.assertEqual(grade_of(ALIKE, ((1, 2), ()), ("write", 0, 1)), 0)
        self.assertEqual(grade_of(FREE, ((), (1, 3)), ("write", 1, 3)), 0)
        self.assertIsNone(grade_of(FREE, ((1,), (1, 3)), ("write", 1, 3)))
        for sheet in (((1,), (1,)), ((), ()), ((), (2,))):
            for move in (("write", 0, 1), ("strike", 0, 1), ("write", 1, 2), ("strike", 1, 1), UNDO):
                wrong = error_of(grade_of, ALIKE, sheet, move)
                self.assertEqual((wrong.kind, wrong.told), (errors.InvalidMove, {"given": move}))

    def test_undo_has_no_grade_at_a_sheet_alone_and_0_in_a_game(self):
        wrong = error_of(grade_of, ALIKE, ((1, 2), (1, 2)), UNDO)
        self.assertEqual((wrong.kind, wrong.told), (errors.InvalidMove, {"given": UNDO}))
        self.assertEqual(grades((ALIKE, ()), (("write", 0, 2), UNDO, ("strike", 1, 2), UNDO)), (None, 0, 2, 0))
        self.assertIsNone(reasoned((ALIKE, ()), (("write", 0, 2), UNDO)))
        self.assertEqual(reasoned((ALIKE, ()), ()), 0)

    def test_a_game_that_is_reasoned_keeps_all_fillings(self):
        kept = 0
        for dice, puzzle, right in puzzles(404, 80):
            moves = some_game(dice, puzzle, dice.randint(0, 8))
            good = {filling for filling, met in right.told if len(met) == len(puzzle[0][3])}
            if reasoned(puzzle, moves) is not None:
                for sheet in sheets(puzzle, moves):
                    self.assertTrue(all(worth in lot for filling in good for worth, lot in zip(filling, sheet)))
                kept += len(moves) > 1
        self.assertGreater(kept, 15)

    def test_the_end_stays_in_a_reasoned_game(self):
        kept = 0
        for dice, puzzle, right in puzzles(405, 60):
            moves = some_game(dice, puzzle, dice.randint(0, 6))
            most = reasoned(puzzle, moves)
            if most is not None:
                lots = lots_for(puzzle[0], most)
                for sheet in sheets(puzzle, moves):
                    self.assertEqual(right.last(sheet, lots), right.last(right.sheet, lots))
                kept += len(moves) > 1
                if is_settled(sheets(puzzle, moves)[-1]) and the_filling(puzzle) is not None:
                    self.assertGreaterEqual(most, hardness(puzzle))
        self.assertGreater(kept, 10)


class Hints(unittest.TestCase):
    def test_against_all_fillings(self):
        told = [0, 0]
        for dice, puzzle, right in puzzles(406, 70, 4):
            moves = some_game(dice, puzzle, dice.randint(0, 4))
            sheet = sheets(puzzle, moves)[-1]
            one = hint(puzzle, moves)
            self.assertEqual(one, hint_plainly(right, sheet), (puzzle, moves))
            told[one is None] += 1
        self.assertTrue(min(told) > 15, told)

    def test_games_by_hints_against_hints_one_by_one(self):
        told = {}
        for dice, puzzle, right in puzzles(407, 60, 4):
            row, moves = [right.sheet], []
            while hint_plainly(right, row[-1]) is not None:
                moves.append(hint_plainly(right, row[-1]))
                row = make_plainly(row, moves[-1])
            self.assertEqual(game_by_hints(puzzle), tuple(moves))
            one = hardness(puzzle)
            told[one] = told.get(one, 0) + 1
            if one is not None:
                self.assertTrue(is_settled(row[-1]))
                self.assertEqual(reasoned(puzzle, tuple(moves)), one)
        self.assertTrue(told.get(1, 0) > 3 and told.get(2, 0) > 0 and told.get(None, 0) > 3, told)

    def test_hints_alone_fill_in_each_puzzle_with_one_filling(self):
        told = {}
        for dice, puzzle, right in puzzles(408, 400, 9):
            filling = the_filling(puzzle)
            moves = game_by_hints(puzzle)
            self.assertTrue(is_game(puzzle, moves) and all(move[0] == "strike" for move in moves))
            self.assertIsNone(hint(puzzle, moves))
            if filling is not None:
                self.assertEqual(sheets(puzzle, moves)[-1], tuple((worth,) for worth in filling))
                self.assertEqual(reasoned(puzzle, moves), hardness(puzzle))
                told[hardness(puzzle)] = told.get(hardness(puzzle), 0) + 1
        self.assertTrue(all(told.get(number, 0) > 2 for number in (0, 1, 2)), told)

    def test_hints_and_undo_alone_are_reasoned_up_to_the_hardness(self):
        tried = 0
        for dice, puzzle, right in puzzles(409, 300):
            one = hardness(puzzle)
            if one is not None and one > 0:
                moves = ()
                for _ in range(8):
                    told = hint(puzzle, moves)
                    if told is None or (dice.random() < .3 and is_game(puzzle, moves + (UNDO,))):
                        told = UNDO
                    moves += (told,)
                self.assertLessEqual(reasoned(puzzle, moves), one)
                tried += 1
        self.assertGreater(tried, 20)

    def test_no_hint_at_settled_sheets_and_without_rules(self):
        self.assertIsNone(hint((ALIKE, ((0, 1), (1, 1))), ()))
        self.assertIsNone(hint((ALIKE, ((0, 1), (1, 2))), ()))
        self.assertIsNone(hint((FREE, ()), ()))
        self.assertEqual(game_by_hints((FREE, ())), ())
        self.assertEqual(game_by_hints((ALIKE, ((0, 2),))), (("strike", 1, 1),))
        # By 2 at the first place nothing fills: each strike that fits follows.
        self.assertEqual(hint((ALIKE, ()), (("write", 0, 2),)), ("strike", 1, 1))
        self.assertEqual(sheets((ALIKE, ((0, 2),)), (("strike", 1, 1),))[-1], ((2,), (2,)))

    def test_several_grades_the_least_first(self):
        # The last place is told by one rule alone, the first two by both others together.
        kind = (1, 3, 2, (("steps", 0, 1, 0, 0), ("sum", (0, 1), 2, 3), ("sum", (2,), 1, 1)))
        self.assertEqual(game_by_hints((kind, ())), (("strike", 2, 2), ("strike", 0, 2), ("strike", 1, 2)))
        self.assertEqual(grades((kind, ()), game_by_hints((kind, ()))), (1, 2, 1))
        self.assertEqual(grades((kind, ()), (("strike", 1, 2), ("write", 0, 1), ("write", 2, 1))), (2, 1, 1))

    def test_large_puzzles(self):
        kind = latin(4, 4)
        for givens in (((0, 1), (3, 4), (5, 4), (10, 4), (15, 1)), ((0, 1), (6, 1), (11, 2), (13, 4)), ()):
            puzzle = (kind, givens)
            moves = game_by_hints(puzzle)
            self.assertIsNone(hint(puzzle, moves))
            if the_filling(puzzle) is not None:
                self.assertEqual(len(moves), sum(len(lot) for lot in begin(puzzle)) - 16)
                self.assertEqual(reasoned(puzzle, moves), hardness(puzzle))
                writes = tuple(("write", place, worth) for place, worth in enumerate(the_filling(puzzle))
                               if len(begin(puzzle)[place]) > 1)
                self.assertTrue(is_game(puzzle, writes))
                self.assertGreaterEqual(reasoned(puzzle, writes), hardness(puzzle))
        steps = tuple(("steps", at, at + 1, 0, 0) for at in range(11))
        ring = ((3, 4, 2, steps + (("sum", (0, 11), 2, 3),)), ())
        self.assertEqual(grades(ring, game_by_hints(ring)), (12,) + (1,) * 11)


class Order(unittest.TestCase):
    def test_what_is_checked_first(self):
        for function in (sheets, grades, reasoned, hint):
            wrong = error_of(function, (ALIKE, ((0, 3),)), None)
            self.assertIs(wrong.kind, errors.InvalidPuzzle)
            wrong = error_of(function, (SQUARE, ()), (("write", 0, 1), ("write", 0, 1), None))
            self.assertEqual((wrong.kind, wrong.told), (errors.InvalidMoves, {"index": 1}))


if __name__ == "__main__":
    unittest.main()
