"""Certificates: that the checker accepts what each function makes, that it is so, and which claim each one makes."""
import random
import unittest

from certified import WORDS, certified, some_claims, some_small_kind, some_told_puzzle, writes
from helper import (Listed, error_of, filled_kinds, fillings_plainly, grade_plainly, is_settled, latin, listed, lots_for,
                    pairs_kind, some_game, some_givens, some_kind, strikes_in, whole_plainly)
from plain import accepts_plainly, hardness_plainly, is_claim, is_so
from turned import turns_of

from onefilling import errors
from onefilling.certificates import (certify_end, certify_fewest, certify_fillings, certify_follows, certify_game,
                                     certify_gap, certify_hard, certify_hardness, certify_least, certify_tight,
                                     certify_turned)
from onefilling.checker import accepts
from onefilling.ends import end
from onefilling.fillings import the_filling
from onefilling.games import game_by_hints, grades, reasoned, sheets
from onefilling.hardness import hardness
from onefilling.kinds import whole_sheet
from onefilling.makers import fewest, gaps, idle, made, puzzle_from
from onefilling.reasons import follows, least_lots, rank_of
from onefilling.shown import shown, shown_names
from onefilling.turns import turned_puzzle

ALIKE = (1, 2, 2, (("steps", 0, 1, 0, 0), ("sum", (0, 1), 2, 3)))
SQUARE = (2, 2, 2, (("unlike", (0, 1)), ("unlike", (0, 2)), ("unlike", (1, 3)), ("unlike", (2, 3))))
FREE = (1, 2, 2, ())
BOTH = ((1, 2), (1, 2))
LATIN = latin(4, 4)
FILLED = (1, 2, 3, 4, 3, 4, 1, 2, 2, 1, 4, 3, 4, 3, 2, 1)
UNDO = ("undo",)


class Made(unittest.TestCase):
    def shown_right(self, told):
        """A pair of a claim and a paper that the checker accepts, by the words, too, and that is so."""
        self.assertTrue(type(told) is tuple and len(told) == 2)
        claim, paper = told
        self.assertIs(accepts(claim, paper), True, told)
        self.assertTrue(is_claim(claim) and is_so(claim), claim)
        self.assertTrue(accepts_plainly(claim, paper), told)

    def test_all_that_is_made_is_accepted_and_so(self):
        told = {}
        for dice, claim, paper in certified(801, 120):
            self.shown_right((claim, paper))
            told[claim[0]] = told.get(claim[0], 0) + 1
        self.assertTrue(all(told.get(word, 0) > 10 for word in WORDS), told)

    def test_with_more_rules(self):
        told = 0
        dice = random.Random(802)
        for _ in range(40):
            kind = pairs_kind(dice) if dice.random() < .7 else some_kind(dice, 8)
            for claim, paper in some_claims(dice, kind):
                self.assertIs(accepts(claim, paper), True, (claim, paper))
                told += 1
        self.assertGreater(told, 300)

    def test_equal_calls_return_equal_papers(self):
        for seed in (803, 804):
            first = [one for one in some_claims(random.Random(seed), some_small_kind(random.Random(seed)))]
            again = [one for one in some_claims(random.Random(seed), some_small_kind(random.Random(seed)))]
            self.assertEqual(first, again)


class Fillings(unittest.TestCase):
    def test_none_one_or_two(self):
        told = {}
        dice = random.Random(805)
        for _ in range(250):
            kind = some_small_kind(dice)
            filling = [dice.randint(1, kind[2]) for _ in range(kind[0] * kind[1])]
            puzzle = (kind, some_givens(dice, filling, dice.randint(0, len(filling))))
            good = fillings_plainly(puzzle)
            claim, paper = certify_fillings(puzzle)
            word = ("none", "one", "two")[min(len(good), 2)]
            self.assertEqual(claim, (word, puzzle) + ((good[0],) if word == "one" else ()))
            self.assertTrue(accepts(claim, paper))
            told[word] = told.get(word, 0) + 1
        self.assertTrue(min(told.values()) > 20 and len(told) == 3, told)

    def test_by_hand(self):
        self.assertEqual(certify_fillings((SQUARE, ()))[0], ("two", (SQUARE, ())))
        self.assertEqual(certify_fillings((ALIKE, ()))[0], ("one", (ALIKE, ()), (1, 1)))
        self.assertEqual(certify_fillings((ALIKE, ((0, 2),)))[0], ("none", (ALIKE, ((0, 2),))))
        self.assertEqual(certify_fillings((FREE, ((0, 1), (1, 2)))), (("one", (FREE, ((0, 1), (1, 2))), (1, 2)), ((), ())))


class Strikes(unittest.TestCase):
    def test_follows_or_not(self):
        told = [0, 0]
        for dice, kind, sheet, right in listed(806, 120):
            for strike in strikes_in(sheet)[:4]:
                lot = tuple(index for index in range(len(kind[3])) if dice.random() < .6)
                one = right.follows(sheet, lot, strike)
                claim, paper = certify_follows(kind, sheet, lot, strike)
                self.assertEqual(claim, ("follows" if one else "follows not", kind, sheet, lot, *strike))
                self.assertIs(follows(kind, sheet, lot, strike), one)
                self.assertTrue(accepts(claim, paper))
                told[one] += 1
        self.assertTrue(min(told) > 50, told)

    def test_least_lots(self):
        told = [0, 0]
        for dice, kind, sheet, right in listed(807, 120):
            for strike in strikes_in(sheet)[:4]:
                rank = rank_of(kind, sheet, strike)
                for most in (0, 1, 2, 12):
                    one = certify_least(kind, sheet, strike, most)
                    self.assertIs(one is None, rank is None or rank > most)
                    told[one is None] += 1
                    if one is not None:
                        self.assertTrue(accepts(*one))
                        self.assertEqual(one[0][:3] + one[0][4:], ("least lot", kind, sheet, *strike))
                        self.assertIn(one[0][3], least_lots(kind, sheet, strike, 12))
                        self.assertEqual(len(one[0][3]), rank)
        self.assertTrue(min(told) > 50, told)

    def test_by_hand(self):
        self.assertEqual(certify_least(ALIKE, BOTH, (0, 2), 2)[0], ("least lot", ALIKE, BOTH, (0, 1), 0, 2))
        self.assertIsNone(certify_least(ALIKE, BOTH, (0, 2), 1))
        self.assertIsNone(certify_least(ALIKE, BOTH, (0, 1), 12))
        self.assertEqual(certify_least(ALIKE, ((1, 2), ()), (0, 1), 0), (("least lot", ALIKE, ((1, 2), ()), (), 0, 1), (("void", 1), ())))
        self.assertEqual(certify_follows(ALIKE, BOTH, (0,), (0, 2)), (("follows not", ALIKE, BOTH, (0,), 0, 2), (2, 2)))


class Ends(unittest.TestCase):
    def test_ends(self):
        for dice, kind, sheet, right in listed(808, 80, .05):
            for most in (0, 1, 2, 12):
                claim, paper = certify_end(kind, sheet, most)
                self.assertEqual(claim, ("end", kind, sheet, most, end(kind, sheet, most)))
                self.assertEqual(claim[4], right.last(sheet, lots_for(kind, most)))
                self.assertTrue(accepts(claim, paper))


class Hard(unittest.TestCase):
    def test_up_to_harder_or_neither(self):
        told = {"hard up to": 0, "harder than": 0, None: 0}
        dice = random.Random(809)
        for _ in range(120):
            kind = some_small_kind(dice)
            filling = [dice.randint(1, kind[2]) for _ in range(kind[0] * kind[1])]
            puzzle = (kind, some_givens(dice, filling, dice.choice((0, 0, 1, len(filling)))))
            one = hardness_plainly(puzzle)
            right = Listed(kind, tuple(dict(puzzle[1]).get(place) and (dict(puzzle[1])[place],) or lot
                                       for place, lot in enumerate(whole_plainly(kind))))
            for most in (0, 1, 2, 12):
                word = None
                if one is not None and one <= most:
                    word = "hard up to"
                elif any(len(lot) > 1 for lot in right.last(right.sheet, lots_for(kind, most))):
                    word = "harder than"
                made_one = certify_hard(puzzle, most)
                self.assertEqual(made_one and made_one[0], word and (word, puzzle, most))
                self.assertTrue(made_one is None or accepts(*made_one))
                told[word] += 1
            if one is None:
                wrong = error_of(certify_hardness, puzzle)
                self.assertEqual((wrong.kind, wrong.told), (errors.NotOne, {}))
            else:
                claim, paper = certify_hardness(puzzle)
                self.assertEqual(claim, ("hardness", puzzle, one))
                self.assertTrue(accepts(claim, paper))
                self.assertIs(paper[1] is None, one == 0)
        self.assertTrue(min(told.values()) > 20, told)

    def test_neither(self):
        self.assertIsNone(certify_hard((ALIKE, ((0, 1), (1, 2))), 0))
        self.assertIsNone(certify_hard((ALIKE, ((0, 2),)), 2))
        self.assertEqual(certify_hard((FREE, ()), 12)[0], ("harder than", (FREE, ()), 12))
        self.assertEqual(certify_hard((FREE, ((0, 1), (1, 1))), 0), (("hard up to", (FREE, ((0, 1), (1, 1))), 0), ()))


class Tight(unittest.TestCase):
    def test_tight_or_the_first_idle_given(self):
        told = {"tight": 0, "idle": 0, None: 0}
        dice = random.Random(810)
        for _, kind, filling in filled_kinds(810, 150):
            puzzle = (kind, some_givens(dice, filling, dice.randint(0, len(filling))))
            if len(fillings_plainly(puzzle)) != 1:
                wrong = error_of(certify_tight, puzzle)
                self.assertEqual((wrong.kind, wrong.told), (errors.NotOne, {}))
                told[None] += 1
                continue
            claim, paper = certify_tight(puzzle)
            self.assertEqual(claim, ("idle", puzzle, idle(puzzle)[0]) if idle(puzzle) else ("tight", puzzle))
            self.assertTrue(accepts(claim, paper))
            told[claim[0]] += 1
        self.assertTrue(min(told.values()) > 10, told)
        self.assertEqual(certify_tight((SQUARE, ((1, 2), (2, 2))))[0], ("idle", (SQUARE, ((1, 2), (2, 2))), 1))


class GapsAndFewest(unittest.TestCase):
    def test_the_first_least_gap_and_fewest(self):
        told = [0, 0]
        for dice, kind, filling in filled_kinds(811, 60, 6, 5):
            for most in (0, 1, 2, 12):
                some = gaps(kind, filling, most)
                one = certify_gap(kind, filling, most)
                self.assertIs(one is None, some == ())
                told[some == ()] += 1
                if one is not None:
                    self.assertEqual(one[0], ("gap", kind, filling, most, some[0]))
                    self.assertTrue(accepts(*one))
                claim, paper = certify_fewest(kind, filling, most)
                self.assertEqual(claim, ("fewest", kind, filling, most, fewest(kind, filling, most)))
                self.assertTrue(accepts(claim, paper))
        self.assertTrue(min(told) > 10, told)

    def test_large_ones(self):
        for most in (1, 12):
            self.assertTrue(accepts(*certify_gap(LATIN, FILLED, most)))
            claim, paper = certify_fewest(LATIN, FILLED, most)
            self.assertEqual(claim[4], 5)
            self.assertTrue(accepts(claim, paper))
            self.assertFalse(accepts(claim[:4] + (4,), paper))
        kind = (2, 4, 3, (("sum", tuple(range(8)), 16, 16),))
        claim, paper = certify_fewest(kind, (2,) * 8, 1)
        self.assertEqual(claim[4], 7)
        self.assertTrue(accepts(claim, paper))
        free = (4, 4, 6, ())
        claim, paper = certify_fewest(free, (3,) * 16, 12)
        self.assertEqual(claim[4], 16)
        self.assertTrue(accepts(claim, paper))


class Games(unittest.TestCase):
    def test_the_greatest_grade_or_none(self):
        told = {}
        dice = random.Random(812)
        for _, kind, filling in filled_kinds(812, 600, 4, 6):
            puzzle = (kind, some_givens(dice, filling, dice.choice((0, 0, 1, len(filling)))))
            if dice.random() < .7:
                puzzle = some_told_puzzle(dice, kind, filling)
            if (hardness(puzzle) or 0) < 2 and dice.random() < .8:
                continue
            for moves in (game_by_hints(puzzle), some_game(dice, puzzle, 12, .1), writes(dice, puzzle, filling), ()):
                one = certify_game(puzzle, moves)
                most = reasoned(puzzle, moves)
                kept = most is not None and is_settled(sheets(puzzle, moves)[-1])
                self.assertEqual(one and one[0], ("reasoned up to", puzzle, moves, most) if kept else None)
                if kept:
                    self.assertTrue(accepts(*one))
                    self.assertEqual([rows == () for rows in one[1]], [move == UNDO for move in moves])
                    self.assertTrue(all(len(reason[0]) <= grade for rows, grade in zip(one[1], grades(puzzle, moves))
                                        for reason in rows))
                number = most if kept else None
                told[number] = told.get(number, 0) + 1
        self.assertTrue(all(told.get(number, 0) > 2 for number in (None, 0, 1, 2)), told)

    def test_of_a_puzzle_without_a_filling(self):
        # By 2 at the first place all follows, so the last worth of a place may be written.
        puzzle = (ALIKE, ((0, 2),))
        right = Listed(ALIKE, ((2,), (1, 2)))
        for moves in ((("write", 1, 1),), (("strike", 1, 1),)):
            self.assertEqual(grade_plainly(right, right.sheet, moves[0]), 1)
            one = certify_game(puzzle, moves)
            self.assertEqual(one[0], ("reasoned up to", puzzle, moves, 1))
            self.assertTrue(accepts(*one))

    def test_200_moves(self):
        there_and_back = (("write", 0, 1), UNDO) * 99
        moves = there_and_back + (("write", 0, 1), ("strike", 1, 2))
        one = certify_game((ALIKE, ()), moves)
        self.assertEqual(one[0], ("reasoned up to", (ALIKE, ()), moves, 2))
        self.assertTrue(accepts(*one))
        self.assertIsNone(certify_game((ALIKE, ()), there_and_back))
        self.assertEqual(error_of(certify_game, (ALIKE, ()), moves + (UNDO,)).told, {"index": 200})


class Turned(unittest.TestCase):
    def test_turned(self):
        dice = random.Random(813)
        for _ in range(100):
            kind = some_kind(dice, 5)
            filling = [dice.randint(1, kind[2]) for _ in range(kind[0] * kind[1])]
            puzzle = (kind, some_givens(dice, filling, dice.randint(0, len(filling))))
            turn = dice.choice(turns_of(kind))
            self.assertEqual(certify_turned(puzzle, turn), (("turned", puzzle, turned_puzzle(puzzle, turn)), turn))
            self.assertTrue(accepts(*certify_turned(puzzle, turn)))
            other = turned_puzzle(puzzle, turn)
            mixed = (other[0][:3] + (tuple(dice.sample(other[0][3], len(other[0][3]))),), other[1])
            self.assertTrue(accepts(("turned", puzzle, mixed), turn))


class Large(unittest.TestCase):
    def test_puzzles_of_16_places(self):
        dice = random.Random(814)
        for _ in range(3):
            groups = [tuple(sorted(dice.sample(range(16), dice.randint(2, 4)))) for _ in range(4)]
            sums = [sum(FILLED[place] for place in group) for group in groups]
            kind = LATIN[:3] + (LATIN[3] + tuple(("sum", group, total, total) for group, total in zip(groups, sums)),)
            puzzle = puzzle_from(kind, FILLED, made(kind, FILLED, 12, tuple(dice.sample(range(16), 16))))
            for told in (certify_fillings(puzzle), certify_hardness(puzzle), certify_tight(puzzle), certify_fewest(kind, FILLED, 2),
                         certify_game(puzzle, game_by_hints(puzzle)), certify_end(kind, whole_sheet(kind), 2)):
                self.assertTrue(accepts(*told), told[0])

    def test_the_shown_ones(self):
        for name in shown_names():
            kind, filling, givens = shown(name)
            puzzle = (kind, givens)
            self.assertEqual(certify_fillings(puzzle)[0], ("one", puzzle, filling))
            self.assertEqual(certify_tight(puzzle)[0], ("tight", puzzle))
            self.assertEqual(certify_hardness(puzzle)[0], ("hardness", puzzle, hardness(puzzle)))
            self.assertEqual(the_filling(puzzle), filling)
            for told in (certify_fillings(puzzle), certify_fillings((kind, ())), certify_hardness(puzzle), certify_tight(puzzle),
                         certify_gap(kind, filling, 2), certify_fewest(kind, filling, 1), certify_fewest(kind, filling, 12),
                         certify_game(puzzle, game_by_hints(puzzle))):
                self.assertTrue(accepts(*told), told[0])


class Order(unittest.TestCase):
    def test_not_one_is_told_last(self):
        for function in (certify_hardness, certify_tight):
            self.assertIs(error_of(function, (SQUARE, ((0, 3),))).kind, errors.InvalidPuzzle)
            for puzzle in ((SQUARE, ()), (SQUARE, ((0, 1), (3, 2))), (FREE, ((0, 1),))):
                wrong = error_of(function, puzzle)
                self.assertEqual((wrong.kind, wrong.told), (errors.NotOne, {}))

    def test_the_filling_has_to_fill_the_kind(self):
        for function in (certify_gap, certify_fewest):
            wrong = error_of(function, ALIKE, (2, 2), None)
            self.assertEqual((wrong.kind, wrong.told), (errors.InvalidFilling, {"given": (2, 2)}))
            self.assertIs(error_of(function, ALIKE, (1, 1), 13).kind, errors.InvalidNumber)


if __name__ == "__main__":
    unittest.main()
