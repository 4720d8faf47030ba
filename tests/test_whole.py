"""What holds over the whole program: [1], [2]."""
import random
import unittest

from certified import some_small_kind
from helper import (Listed, all_lots, begin_plainly, fillings_plainly, filled_kinds, is_settled, least_of_all, lots_for,
                    lots_of_places, meets, pairs_kind, sheets_with, some_givens, some_sheet,
                    strikes_in, whole_plainly)

from onefilling.certificates import (certify_end, certify_fewest, certify_fillings, certify_follows, certify_game,
                                     certify_gap, certify_hard, certify_hardness, certify_tight)
from onefilling.checker import accepts
from onefilling.ends import covers_for, end, end_by, is_closed, left_by, row_to_end
from onefilling.fillings import filling_in, fillings, the_filling, tree_for
from onefilling.games import game_by_hints, grades, is_game, reasoned, sheets
from onefilling.hardness import hardness, row_up_to, sheet_above
from onefilling.kinds import begin, is_within
from onefilling.makers import fewest, gaps, idle, is_told, is_tight, made, puzzle_from, tight_lots
from onefilling.reasons import led, rank_of, strikes_for


def some_puzzles(seed, many):
    """Small puzzles; those that are not so hard are mostly passed over."""
    dice = random.Random(seed)
    while many > 0:
        kind = some_small_kind(dice) if dice.random() < .4 else pairs_kind(dice)
        filling = [dice.randint(1, kind[2]) for _ in range(kind[0] * kind[1])]
        puzzle = (kind, some_givens(dice, filling, dice.choice((0, 0, 0, 1))))
        one = hardness(puzzle)
        if (one or 0) > 1 or dice.random() < (.05 if one is None else .2):
            many -= 1
            yield dice, puzzle


class OneEnd(unittest.TestCase):
    def test_by_many_orders_one_end_and_as_many_strikes(self):
        moved = 0
        for dice, puzzle in some_puzzles(1001, 60):
            kind = puzzle[0]
            sheet = begin(puzzle) if dice.random() < .5 else some_sheet(dice, kind)
            for most in (0, 1, 2, 3, 12):
                last = end(kind, sheet, most)
                for _ in range(4):
                    strikes, left = end_by(kind, sheet, most, tuple(dice.randrange(50) for _ in range(30)))
                    self.assertEqual(left, last)
                    self.assertEqual(len(strikes), len(strikes_in(sheet)) - len(strikes_in(last)))
                self.assertEqual(led(kind, sheet, row_to_end(kind, sheet, most)), last)
                self.assertEqual(len(row_to_end(kind, sheet, most)), len(strikes))
                self.assertEqual(certify_end(kind, sheet, most)[0][4], last)
                moved += len(strikes) > 1
            self.assertEqual(end(kind, sheet, 12), end(kind, end(kind, sheet, 1), 12))
        self.assertGreater(moved, 80)

    def test_it_is_the_greatest_closed_sheet_within(self):
        for dice, puzzle in some_puzzles(1002, 40):
            kind, sheet = puzzle[0], begin(puzzle)
            for most in (1, 2, 12):
                last = end(kind, sheet, most)
                self.assertTrue(is_closed(kind, last, most))
                self.assertIsNotNone(covers_for(kind, last, most))
                self.assertTrue(is_within(kind, end(kind, some_sheet(dice, kind), most), end(kind, begin((kind, ())), most)))


class ExactlySoHard(unittest.TestCase):
    def test_hardness_rows_covers_hints_and_papers_tell_the_same(self):
        told = {}
        for dice, puzzle in some_puzzles(1003, 150):
            kind, one = puzzle[0], hardness(puzzle)
            told[one] = told.get(one, 0) + 1
            moves = game_by_hints(puzzle)
            if one is None:
                self.assertNotEqual(certify_fillings(puzzle)[0][0], "one")
                continue
            self.assertEqual(certify_hardness(puzzle)[0], ("hardness", puzzle, one))
            self.assertTrue(accepts(*certify_hardness(puzzle)))
            self.assertEqual(reasoned(puzzle, moves), one)
            self.assertEqual(certify_game(puzzle, moves)[0], ("reasoned up to", puzzle, moves, one))
            places = len(begin(puzzle))
            self.assertEqual([many == places for many in left_by(kind, begin(puzzle))],
                             [most >= one for most in range(len(kind[3]) + 1)])
            for most in list(range(len(kind[3]) + 1)) + [12]:
                self.assertIs(row_up_to(puzzle, most) is not None, one <= most)
                self.assertIs(sheet_above(puzzle, most) is None, one <= most)
                self.assertEqual(certify_hard(puzzle, most)[0][0], "hard up to" if one <= most else "harder than")
        self.assertTrue(all(told.get(number, 0) > 2 for number in (None, 1, 2, 3)), told)

    def test_whoever_fills_it_in_needs_a_move_of_this_grade(self):
        told = 0
        for dice, puzzle in some_puzzles(1004, 100):
            filling = the_filling(puzzle)
            if filling is None:
                continue
            for _ in range(3):
                moves = some_way(dice, puzzle, filling)
                self.assertTrue(is_game(puzzle, moves) and is_settled(sheets(puzzle, moves)[-1]))
                self.assertGreaterEqual(max(grades(puzzle, moves), default=0), hardness(puzzle))
                self.assertTrue(accepts(*certify_game(puzzle, moves)))
                told += hardness(puzzle) > 1
        self.assertGreater(told, 20)


def some_way(dice, puzzle, filling):
    """A game that fills in the puzzle, by strikes and writes in any order."""
    sheet = list(begin(puzzle))
    moves = []
    while not is_settled(sheet):
        place = dice.choice([place for place, lot in enumerate(sheet) if len(lot) > 1])
        if dice.random() < .4:
            moves.append(("write", place, filling[place]))
            sheet[place] = (filling[place],)
        else:
            worth = dice.choice([worth for worth in sheet[place] if worth != filling[place]])
            moves.append(("strike", place, worth))
            sheet[place] = tuple(other for other in sheet[place] if other != worth)
    return tuple(moves)


class NoGivenTooMany(unittest.TestCase):
    def test_lots_none_of_them_idle_are_the_least_that_meet_each_gap(self):
        for dice, kind, filling in filled_kinds(1005, 80):
            lots = lots_of_places(kind)
            good = []
            for lot in lots:
                puzzle = puzzle_from(kind, filling, lot)
                if fillings_plainly(puzzle) == [filling] and idle(puzzle) == ():
                    good.append(lot)
                    self.assertTrue(is_tight(puzzle))
                    self.assertEqual(certify_tight(puzzle)[0], ("tight", puzzle))
            some = gaps(kind, filling, 12)
            self.assertEqual(tuple(sorted(good)), least_of_all([lot for lot in lots if all(meets(lot, gap) for gap in some)]))
            self.assertEqual(tight_lots(kind, filling, 12), tuple(sorted(good)))

    def test_tight_lots_gaps_and_fewest_tell_the_same(self):
        for dice, kind, filling in filled_kinds(1006, 60):
            for most in (0, 1, 2, 12):
                tight, some, few = tight_lots(kind, filling, most), gaps(kind, filling, most), fewest(kind, filling, most)
                self.assertEqual(few, min(len(lot) for lot in tight))
                self.assertEqual(certify_fewest(kind, filling, most)[0][4], few)
                self.assertTrue(all(is_told(kind, filling, most, lot) for lot in tight))
                self.assertFalse(any(is_told(kind, filling, most, tuple(sorted(set(range(len(filling))) - set(gap))))
                                     for gap in some))
                self.assertIn(made(kind, filling, most, tuple(range(len(filling)))), tight)
                first = certify_gap(kind, filling, most)
                self.assertEqual(first and first[0][4], some[0] if some else None)

    def test_a_tight_puzzle_by_more_rules_at_a_time_needs_no_more_givens(self):
        for dice, kind, filling in filled_kinds(1007, 60):
            few = [fewest(kind, filling, most) for most in range(len(kind[3]) + 2)]
            self.assertEqual(few, sorted(few, reverse=True))
            self.assertEqual(few[0], len(filling))
            for lot in tight_lots(kind, filling, 1):
                one = hardness(puzzle_from(kind, filling, lot))
                self.assertIn(one, (0, 1))


class TreesOfGaps(unittest.TestCase):
    def test_there_is_one_exactly_if_no_lot_of_fewer_places_tells_it(self):
        told = [0, 0]
        for dice, kind, filling in filled_kinds(1010, 60, 4, 4):
            if kind[2] ** (kind[0] * kind[1]) > 81:
                continue
            right = Listed(kind, whole_plainly(kind))
            for most in (0, 1, 2, 12):
                closed = [sheet for sheet in sheets_with(kind, filling) if not right.ready(sheet, lots_for(kind, most))]
                loose = {tuple(place for place, lot in enumerate(sheet) if len(lot) > 1) for sheet in closed} - {()}
                few = fewest(kind, filling, most)
                for many in range(1, len(filling) + 1):
                    self.assertIs(has_tree(loose, many, ()), few >= many, (kind, filling, most, many))
                    told[few >= many] += 1
        self.assertTrue(min(told) > 50, told)


def has_tree(loose, many, settled):
    """Whether there is a tree of gaps for these settled places, LOOSE being the unsettled places of all closed sheets."""
    for gap in loose:
        if not meets(gap, settled):
            if len(settled) == many - 1 or all(has_tree(loose, many, settled + (place,)) for place in gap):
                return True
    return False


class Papers(unittest.TestCase):
    def test_of_two_things_that_exclude_one_another_just_one_is_told(self):
        told = {}
        for dice, puzzle in some_puzzles(1008, 120):
            kind, sheet = puzzle[0], some_sheet(dice, puzzle[0])
            claim, paper = certify_fillings(puzzle)
            self.assertTrue(accepts(claim, paper))
            self.assertEqual(claim[0], ("none", "one", "two")[len(fillings(kind, begin(puzzle), 2))])
            told[claim[0]] = True
            lot = dice.choice(all_lots(len(kind[3])))
            self.assertIs(tree_for(kind, sheet, lot) is None, filling_in(kind, sheet, lot) is not None)
            for strike in strikes_in(sheet)[:3]:
                claim, paper = certify_follows(kind, sheet, lot, strike)
                told[claim[0]] = True
                self.assertTrue(accepts(claim, paper))
                other = ("follows not" if claim[0] == "follows" else "follows",) + claim[1:]
                self.assertFalse(accepts(other, paper))
            one = certify_hard(puzzle, 1)
            if one is not None:
                told[one[0][0]] = True
                other = ("harder than" if one[0][0] == "hard up to" else "hard up to",) + one[0][1:]
                self.assertTrue(accepts(*one))
                self.assertFalse(accepts(other, one[1]))
        self.assertEqual(len(told), 7, told)

    def test_ranks_strikes_and_ends_against_all_fillings(self):
        for dice, puzzle in some_puzzles(1009, 40):
            kind, sheet = puzzle[0], begin_plainly(puzzle)
            right = Listed(kind, sheet)
            for most in (1, 2, 12):
                ready = right.ready(sheet, lots_for(kind, most))
                self.assertEqual(list(strikes_for(kind, sheet, most)), ready)
                self.assertTrue(all(rank_of(kind, sheet, strike) <= most for strike in ready))


if __name__ == "__main__":
    unittest.main()
