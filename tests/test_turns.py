"""Turns of kinds, sheets, fillings and puzzles, and what keeps a kind: [31], and the least givens of [32]."""
import itertools
import random
import unittest

from helper import (FLOORS, SORTS, STRANGE, all_in, error_of, filled_kinds, holds_plainly, latin, most_worths, pairs_kind,
                    some_game, some_givens, some_kind, some_rule, some_sheet, strikes_in, whole_plainly)
from turned import ORDERED, givens_plainly, keeps_plainly, kind_plainly, rule_plainly, spot, turns_of

from onefilling import errors
from onefilling.ends import end
from onefilling.games import grades
from onefilling.hardness import hardness
from onefilling.kinds import fills, is_kind, is_puzzle, is_sheet
from onefilling.makers import fewest, gaps, tight_lots
from onefilling.reasons import rank_of
from onefilling.turns import (is_turn, keeps, least_of, turned_filling, turned_kind, turned_puzzle, turned_sheet,
                              undoing)

ALIKE = (1, 2, 2, (("steps", 0, 1, 0, 0), ("sum", (0, 1), 2, 3)))
SQUARE = (2, 2, 2, (("unlike", (0, 1)), ("unlike", (0, 2)), ("unlike", (1, 3)), ("unlike", (2, 3))))


def least_plainly(puzzle):
    """The least givens, by all turns that keep the kind."""
    kind, givens = puzzle
    return min(givens_plainly(kind, turn, givens) for turn in turns_of(kind) if keeps_plainly(kind, turn))


def kinds_of_all_sorts(seed, many):
    """Small kinds, half of them without a rule by which worths stand in order."""
    dice = random.Random(seed)
    for _ in range(many):
        kind = some_kind(dice, 4)
        if dice.random() < .5:
            kind = kind[:3] + (tuple(rule for rule in kind[3] if rule[0] not in ORDERED),)
        yield dice, kind


def even_kind(dice):
    """A kind that many turns keep: with a rule it has the rule by some turn, too."""
    rows, columns = dice.choice(FLOORS + ((2, 2), (3, 3)))
    kind = (rows, columns, dice.randint(2, min(4, most_worths(rows * columns))), ())
    sorts = [sort for sort in SORTS if (rows * columns > 1 or sort not in ("unlike", "below", "steps"))]
    sorts = [sort for sort in sorts if sort not in ORDERED or dice.random() < .2]
    turn = (dice.choice([0, 1, 2, 3] + [4, 5, 6, 7] * (rows == columns)), tuple(dice.sample(range(1, kind[2] + 1), kind[2])))
    rules = []
    for _ in range(dice.randint(0, 3)):
        rule = some_rule(dice, rows * columns, kind[2], dice.choice(sorts))
        if rule[0] in ORDERED:
            turn = (turn[0], tuple(range(1, kind[2] + 1)))
        rules.append(rule)
    told = list(rules)
    for rule in rules:
        other = rule_plainly(kind, turn, rule)
        while other != rule and len(told) < 12:
            told.append(other)
            other = rule_plainly(kind, turn, other)
    return kind[:3] + (tuple(dice.sample(told, len(told))),)


class IsTurn(unittest.TestCase):
    def test_all_turns_and_no_others(self):
        for dice, kind in kinds_of_all_sorts(501, 100):
            right = turns_of(kind)
            for how in range(-1, 9):
                for exchange in itertools.permutations(range(1, kind[2] + 1)):
                    self.assertIs(is_turn(kind, (how, exchange)), (how, exchange) in right, (kind, how, exchange))

    def test_worths_stay_in_order_where_they_are_compared(self):
        for rule, right in ((("unlike", (0, 1)), True), (("count", (0, 1), (1,), 1, 1), True), (("joined", (1, 2)), True),
                            (("words", (0, 1), ((1, 2),)), True), (("runs", (0, 1), 2, (1,)), True),
                            (("sum", (0, 1), 2, 3), False), (("below", 0, 1), False), (("steps", 0, 1, 1, 1), False),
                            (("seen", (0, 1), 1), False)):
            kind = (1, 2, 3, (("joined", (3,)), rule))
            for exchange in ((2, 1, 3), (1, 3, 2), (3, 2, 1), (2, 3, 1)):
                self.assertIs(is_turn(kind, (1, exchange)), right, rule)
            self.assertIs(is_turn(kind, (7, (1, 2, 3))), True)
        self.assertIs(is_turn((1, 2, 3, ()), (0, (3, 2, 1))), True)

    def test_what_is_no_turn(self):
        for value in ((0, (1, 2)), (7, (2, 1))):
            self.assertIs(is_turn(SQUARE, value), True)
        for value in ((8, (1, 2)), (-1, (1, 2)), (True, (1, 2)), (None, (1, 2)), ("0", (1, 2)), (0, (1, 1)), (0, (2, 2)),
                      (0, (1,)), (0, (1, 2, 3)), (0, (0, 1)), (0, (2, 3)), (0, [1, 2]), [0, (1, 2)], (0, (True, 2)),
                      (0, (2, True)), (0, "12"), (0,), (0, (1, 2), 0), (0, ()), ((1, 2), 0), (0, ((1,), (2,))),
                      (0, (None, 1)), (10 ** 399, (1, 2)), (0, (10 ** 399, 1)), (0, {1: 2, 2: 1}), (0, (1, [2]))):
            self.assertIs(is_turn(SQUARE, value), False, value)
            wrong = error_of(turned_kind, SQUARE, value)
            self.assertEqual((wrong.kind, wrong.told), (errors.InvalidTurn, {"given": value}))
        for value in STRANGE:
            self.assertIs(is_turn(SQUARE, value), False)
            self.assertIs(is_turn(SQUARE, (value, (1, 2))), type(value) is int and value in (0, 1, 7))
            self.assertIs(is_turn(SQUARE, (0, value)), False)
            self.assertIs(is_turn(SQUARE, (0, (2, value))), type(value) is int and value == 1)


class Turned(unittest.TestCase):
    def test_kinds_sheets_and_fillings_against_the_words(self):
        hows = set()
        for dice, kind in kinds_of_all_sorts(502, 300):
            turn = dice.choice(turns_of(kind))
            hows.add(turn[0])
            other = turned_kind(kind, turn)
            self.assertEqual(other, kind_plainly(kind, turn), (kind, turn))
            self.assertTrue(is_kind(other))
            sheet = some_sheet(dice, kind, .1)
            turned = [None] * len(sheet)
            for place, lot in enumerate(sheet):
                turned[spot(kind, turn[0], place)] = tuple(sorted(turn[1][worth - 1] for worth in lot))
            self.assertEqual(turned_sheet(kind, turn, sheet), tuple(turned))
            self.assertTrue(is_sheet(other, tuple(turned)))
            filling = tuple(dice.randint(1, kind[2]) for _ in sheet)
            turned = [None] * len(sheet)
            for place, worth in enumerate(filling):
                turned[spot(kind, turn[0], place)] = turn[1][worth - 1]
            self.assertEqual(turned_filling(kind, turn, filling), tuple(turned))
            givens = some_givens(dice, filling, dice.randint(0, len(filling)))
            puzzle = turned_puzzle((kind, givens), turn)
            self.assertEqual(puzzle, (other, givens_plainly(kind, turn, givens)))
            self.assertTrue(is_puzzle(puzzle))
        self.assertEqual(hows, set(range(8)))

    def test_floors_with_unlike_sides(self):
        kind = (2, 3, 2, (("unlike", (0, 1)), ("words", (2, 5, 0), ((1, 2, 2),))))
        numbers = (1, 2, 2, 1, 1, 2)
        # The places 0 1 2 / 3 4 5, by each HOW.
        for how, places in ((0, (0, 1, 2, 3, 4, 5)), (1, (2, 1, 0, 5, 4, 3)), (2, (3, 4, 5, 0, 1, 2)), (3, (5, 4, 3, 2, 1, 0)),
                            (4, (0, 3, 1, 4, 2, 5)), (5, (2, 5, 1, 4, 0, 3)), (6, (3, 0, 4, 1, 5, 2)), (7, (5, 2, 4, 1, 3, 0))):
            turn = (how, (1, 2))
            self.assertEqual(turned_filling(kind, turn, numbers), tuple(numbers[place] for place in places))
            other = turned_kind(kind, turn)
            self.assertEqual(other[:2], (3, 2) if how > 3 else (2, 3))
            self.assertEqual(other[3][1][1], tuple(places.index(place) for place in (2, 5, 0)))
            self.assertIs(keeps((2, 3, 2, ()), turn), how < 4)

    def test_turned_back(self):
        for dice, kind in kinds_of_all_sorts(503, 300):
            turn = dice.choice(turns_of(kind))
            back, other = undoing(kind, turn), turned_kind(kind, turn)
            self.assertTrue(is_turn(other, back))
            self.assertEqual(turned_kind(other, back), kind)
            sheet = some_sheet(dice, kind, .1)
            self.assertEqual(turned_sheet(other, back, turned_sheet(kind, turn, sheet)), sheet)
            filling = tuple(dice.randint(1, kind[2]) for _ in sheet)
            self.assertEqual(turned_filling(other, back, turned_filling(kind, turn, filling)), filling)
            puzzle = (kind, some_givens(dice, filling, dice.randint(0, len(filling))))
            self.assertEqual(turned_puzzle(turned_puzzle(puzzle, turn), back), puzzle)
            self.assertEqual(undoing(other, back), turn)
        for how in range(8):
            self.assertEqual(undoing((1, 2, 3, ()), (how, (2, 3, 1))), ({5: 6, 6: 5}.get(how, how), (3, 1, 2)))

    def test_fillings_meet_the_turned_rules_exactly_if_they_met_the_rules(self):
        for dice, kind in kinds_of_all_sorts(504, 80):
            turn = dice.choice(turns_of(kind))
            other = turned_kind(kind, turn)
            for filling in all_in(whole_plainly(kind)):
                turned = turned_filling(kind, turn, filling)
                self.assertIs(fills(kind, filling), fills(other, turned))
                for rule, one in zip(kind[3], other[3]):
                    self.assertIs(holds_plainly(kind, rule, filling), holds_plainly(other, one, turned))


class TurnAlong(unittest.TestCase):
    def test_ends_and_ranks(self):
        for dice, kind in kinds_of_all_sorts(505, 80):
            turn = dice.choice(turns_of(kind))
            other, sheet = turned_kind(kind, turn), some_sheet(dice, kind)
            turned = turned_sheet(kind, turn, sheet)
            for most in (0, 1, 2, 12):
                self.assertEqual(turned_sheet(kind, turn, end(kind, sheet, most)), end(other, turned, most))
            for place, worth in strikes_in(sheet)[:4]:
                strike = (spot(kind, turn[0], place), turn[1][worth - 1])
                self.assertEqual(rank_of(kind, sheet, (place, worth)), rank_of(other, turned, strike))

    def test_hardness_and_grades(self):
        dice = random.Random(506)
        told = set()
        for _ in range(250):
            kind = pairs_kind(dice)
            turn = dice.choice(turns_of(kind))
            filling = [dice.randint(1, kind[2]) for _ in range(kind[0] * kind[1])]
            puzzle = (kind, some_givens(dice, filling, dice.choice((0, 0, 1))))
            other = turned_puzzle(puzzle, turn)
            self.assertEqual(hardness(other), hardness(puzzle), (puzzle, turn))
            told.add(hardness(puzzle))
            moves = some_game(dice, puzzle, 4)
            turned = tuple(move if move == ("undo",) else (move[0], spot(kind, turn[0], move[1]), turn[1][move[2] - 1])
                           for move in moves)
            self.assertEqual(grades(other, turned), grades(puzzle, moves))
        self.assertTrue({None, 1, 2} <= told, told)

    def test_tight_lots_gaps_and_fewest(self):
        for dice, kind, filling in filled_kinds(507, 60):
            turn = dice.choice(turns_of(kind))
            other, turned = turned_kind(kind, turn), turned_filling(kind, turn, filling)
            for most in (0, 1, 2, 12):
                for function in (tight_lots, gaps):
                    lots = [tuple(sorted(spot(kind, turn[0], place) for place in lot)) for lot in function(kind, filling, most)]
                    self.assertEqual(function(other, turned, most), tuple(sorted(lots)))
                self.assertEqual(fewest(other, turned, most), fewest(kind, filling, most))


class Keeps(unittest.TestCase):
    def test_against_the_words(self):
        told = [0, 0]
        dice = random.Random(508)
        for _ in range(150):
            kind = even_kind(dice)
            for turn in turns_of(kind):
                one = keeps(kind, turn)
                self.assertIs(one, keeps_plainly(kind, turn), (kind, turn))
                told[one] += turn[0] > 0
        self.assertTrue(min(told) > 200, told)

    def test_rules_in_any_order_each_as_many_times(self):
        once, other = ("unlike", (0, 1)), ("unlike", (1, 2))
        for rules, right in (((once, other), True), ((other, once), True), ((once, other, once), False),
                             ((once, once, other, other), True), ((once,), False), ((other, once, other, once), True),
                             ((once, once, other), False), ((once, ("unlike", (0, 2)), other), True)):
            self.assertIs(keeps((1, 3, 3, rules), (1, (1, 2, 3))), right, rules)
            self.assertIs(keeps((1, 3, 3, rules), (0, (3, 1, 2))), True, rules)

    def test_steps_the_other_way_round_is_another_rule(self):
        self.assertIs(keeps((1, 2, 2, (("steps", 0, 1, 0, 0),)), (1, (1, 2))), False)
        self.assertIs(keeps((1, 2, 2, (("steps", 0, 1, 0, 0), ("steps", 1, 0, 0, 0))), (1, (1, 2))), True)
        self.assertIs(keeps((1, 3, 2, (("steps", 0, 1, 0, 0), ("steps", 2, 1, 0, 0))), (1, (1, 2))), True)
        self.assertIs(keeps((1, 2, 2, (("below", 0, 1),)), (1, (1, 2))), False)
        self.assertIs(keeps(ALIKE, (0, (1, 2))), True)
        self.assertIs(keeps(ALIKE, (1, (1, 2))), False)

    def test_worths(self):
        kind = (1, 2, 3, (("words", (0, 1), ((1, 2), (2, 1), (3, 3))),))
        for how, exchange, right in ((0, (2, 1, 3), True), (0, (1, 3, 2), False), (0, (3, 2, 1), False), (1, (1, 2, 3), False)):
            self.assertIs(keeps(kind, (how, exchange)), right)
        for rule, right in ((("count", (0, 1), (1, 2), 1, 1), True), (("count", (0, 1), (1, 3), 1, 1), False),
                            (("joined", (3,)), True), (("joined", (2,)), False), (("runs", (0, 1), 1, (1,)), False),
                            (("runs", (0, 1), 3, (1,)), True)):
            self.assertIs(keeps((1, 2, 3, (rule,)), (0, (2, 1, 3))), right, rule)


class Least(unittest.TestCase):
    def test_against_all_turns_that_keep_the_kind(self):
        moved = 0
        dice = random.Random(509)
        for _ in range(250):
            kind = even_kind(dice)
            filling = [dice.randint(1, kind[2]) for _ in range(kind[0] * kind[1])]
            puzzle = (kind, some_givens(dice, filling, dice.randint(0, len(filling))))
            self.assertEqual(least_of(puzzle), least_plainly(puzzle), puzzle)
            moved += least_of(puzzle) != puzzle[1]
        self.assertGreater(moved, 80)

    def test_the_same_exactly_if_some_turn_leads_one_to_the_other(self):
        dice = random.Random(510)
        told = [0, 0]
        for _ in range(60):
            kind = even_kind(dice)
            keeping = [turn for turn in turns_of(kind) if keeps_plainly(kind, turn)]
            fillings = [[dice.randint(1, kind[2]) for _ in range(kind[0] * kind[1])] for _ in range(4)]
            many = dice.randint(0, min(2, kind[0] * kind[1]))
            some = [some_givens(dice, filling, many) for filling in fillings]
            some.append(givens_plainly(kind, dice.choice(keeping), some[0]))
            for one, other in itertools.product(some, repeat=2):
                turned = any(givens_plainly(kind, turn, one) == other for turn in keeping)
                self.assertIs(least_of((kind, one)) == least_of((kind, other)), turned)
                told[turned] += 1
        self.assertTrue(min(told) > 100, told)

    def test_large_kinds(self):
        kind = latin(4, 6)
        self.assertEqual(least_of((kind, ())), ())
        self.assertEqual(least_of((kind, ((15, 6),))), ((0, 1),))
        self.assertEqual(least_of((kind, ((5, 3), (15, 6)))), ((0, 1), (10, 2)))
        self.assertEqual(least_of((kind, ((5, 6), (15, 6)))), ((0, 1), (10, 1)))
        words = tuple(sorted(itertools.permutations((1, 2, 3, 4))))
        rows = tuple(("words", tuple(range(at, at + 4)), words) for at in (0, 4, 8, 12))
        # The ways of these rules are not mirrored, but their rows may be exchanged.
        self.assertEqual(least_of(((4, 4, 6, rows), ((13, 6), (15, 2)))), ((1, 5), (3, 1)))
        self.assertEqual(least_of(((4, 4, 6, rows), ((13, 3), (14, 6)))), ((1, 1), (2, 5)))


class Order(unittest.TestCase):
    def test_what_is_checked_first(self):
        for function in (turned_sheet, turned_filling):
            self.assertIs(error_of(function, (1,), (9, ()), None).kind, errors.InvalidKind)
            self.assertIs(error_of(function, ALIKE, (9, ()), None).kind, errors.InvalidTurn)
        self.assertIs(error_of(turned_sheet, ALIKE, (0, (1, 2)), None).kind, errors.InvalidSheet)
        for filling in (None, (1,), (1, 2, 1), (1, 3), [1, 2], (1, True)):
            wrong = error_of(turned_filling, ALIKE, (0, (1, 2)), filling)
            self.assertEqual((wrong.kind, wrong.told), (errors.InvalidFilling, {"given": filling}))
        # It need not fill the kind here.
        self.assertEqual(turned_filling(ALIKE, (1, (1, 2)), (1, 2)), (2, 1))
        self.assertIs(error_of(turned_puzzle, (ALIKE, ((0, 3),)), None).kind, errors.InvalidPuzzle)
        self.assertIs(error_of(turned_puzzle, (ALIKE, ()), (0, (2, 1))).kind, errors.InvalidTurn)


if __name__ == "__main__":
    unittest.main()
