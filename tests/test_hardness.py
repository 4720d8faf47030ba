"""Hardness: [21], [22], against all fillings of small kinds, one by one, and for some larger ones."""
import itertools
import random
import unittest

from helper import (Listed, holds_plainly, latin, led_plainly, lots_for, pairs_kind, some_givens, some_kind, some_rule,
                    strikes_in)

from onefilling.ends import covers_for, end, is_cover
from onefilling.fillings import other_filling, the_filling
from onefilling.hardness import hardness, row_up_to, sheet_above
from onefilling.kinds import begin, fills, is_within, whole_sheet
from onefilling.reasons import led

ALIKE = (1, 2, 2, (("steps", 0, 1, 0, 0), ("sum", (0, 1), 2, 3)))
SQUARE = (2, 2, 2, (("unlike", (0, 1)), ("unlike", (0, 2)), ("unlike", (1, 3)), ("unlike", (2, 3))))
FREE = (1, 2, 2, ())
FILLED = (1, 2, 3, 4, 3, 4, 1, 2, 2, 1, 4, 3, 4, 3, 2, 1)


def is_settled(sheet):
    return all(len(lot) == 1 for lot in sheet)


def some_puzzle(dice):
    """A puzzle of rules of all sorts, and givens, that mostly hold for one filling."""
    kind = some_kind(dice, 0)
    whole = whole_sheet(kind)
    filling = tuple(dice.choice(lot) for lot in whole)
    sorts = ("unlike", "sum", "below", "steps", "count", "words", "runs") if len(whole) > 1 else ("sum", "count", "words")
    rules = [some_rule(dice, len(whole), kind[2], dice.choice(sorts)) for _ in range(dice.randint(0, 30))]
    good = [rule for rule in rules if holds_plainly(kind, rule, filling) or dice.random() < .01]
    many = dice.choice((0, 0, 1, 1, 2, len(filling)))
    return kind[:3] + (tuple(good[:5]),), some_givens(dice, filling, min(many, len(filling)))


def puzzles(seed, many):
    """Small puzzles, with all fillings in their begin sheets; most of those that are not so hard are passed over."""
    dice = random.Random(seed)
    for _ in range(many):
        for kind, givens in (some_puzzle(dice), (pairs_kind(dice), ()), (pairs_kind(dice), ())):
            if dice.random() < .3 or (hardness((kind, givens)) or 0) > 1:
                yield dice, kind, givens, Listed(kind, begin((kind, givens)))


def ends_of(right):
    """The ends of a sheet for each number from 0 to how many rules there are."""
    return [right.end(right.sheet, lots_for(right.kind, most))[0] for most in range(len(right.kind[3]) + 1)]


def hardness_plainly(right):
    good = [filling for filling, met in right.told if len(met) == len(right.kind[3])]
    return [is_settled(sheet) for sheet in ends_of(right)].index(True) if len(good) == 1 else None


class Hardness(unittest.TestCase):
    def test_against_all_fillings(self):
        told = {}
        for dice, kind, givens, right in puzzles(71, 800):
            one = hardness((kind, givens))
            self.assertEqual(one, hardness_plainly(right), (kind, givens))
            told[one] = told.get(one, 0) + 1
        self.assertTrue(all(told.get(number, 0) > few for number, few in ((None, 50), (0, 50), (1, 50), (2, 9), (3, 0))), told)

    def test_0_exactly_if_all_places_are_given(self):
        told = [0, 0]
        for dice, kind, givens, right in puzzles(72, 300):
            if the_filling((kind, givens)) is not None:
                full = len(givens) == kind[0] * kind[1]
                self.assertIs(hardness((kind, givens)) == 0, full)
                told[full] += 1
        self.assertTrue(min(told) > 9, told)

    def test_none_one_or_two_fillings(self):
        self.assertIsNone(hardness((SQUARE, ())))
        self.assertIsNone(hardness((SQUARE, ((0, 1), (3, 2)))))
        self.assertIsNone(hardness((SQUARE, ((0, 1), (1, 1), (2, 2), (3, 1)))))
        self.assertEqual(hardness((SQUARE, ((0, 1),))), 1)
        self.assertEqual(hardness((SQUARE, ((0, 1), (1, 2), (2, 2), (3, 1)))), 0)
        self.assertIsNone(hardness((FREE, ())))
        self.assertIsNone(hardness((FREE, ((0, 1),))))
        self.assertEqual(hardness((FREE, ((0, 1), (1, 2)))), 0)
        self.assertEqual(hardness(((1, 1, 6, (("sum", (0,), 5, 5),)), ())), 1)
        self.assertIsNone(hardness(((1, 1, 6, (("sum", (0,), 5, 6),)), ())))

    def test_as_hard_as_12(self):
        # Twelve pairs in a ring of thirteen places; only all together tell that the sum of the ends is 2.
        steps = tuple(("steps", at, at + 1, 0, 0) for at in range(11))
        kind = (3, 4, 2, steps + (("sum", (0, 11), 2, 3),))
        self.assertEqual(the_filling((kind, ())), (1,) * 12)
        self.assertEqual(hardness((kind, ())), 12)
        self.assertEqual(hardness((kind, ((5, 1),))), 1)
        self.assertIsNone(row_up_to((kind, ()), 11))
        self.assertEqual(sheet_above((kind, ()), 11), whole_sheet(kind))
        self.assertEqual(led(kind, whole_sheet(kind), row_up_to((kind, ()), 12)), ((1,),) * 12)
        self.assertIsNone(sheet_above((kind, ()), 12))

    def test_with_more_givens_no_harder(self):
        told = 0
        for dice, kind, givens, right in puzzles(73, 300):
            before = hardness((kind, givens))
            if before is not None:
                filling = the_filling((kind, givens))
                more = tuple(sorted(set(givens) | set(some_givens(dice, filling, dice.randint(0, len(filling))))))
                self.assertLessEqual(hardness((kind, more)), before)
                told += hardness((kind, more)) < before
        self.assertGreater(told, 5)

    def test_with_more_rules_that_hold_no_harder(self):
        told = 0
        for dice, kind, givens, right in puzzles(74, 300):
            before = hardness((kind, givens))
            rule = some_rule(dice, len(right.sheet), kind[2], dice.choice(("sum", "count", "seen", "words")))
            if before is not None and holds_plainly(kind, rule, the_filling((kind, givens))):
                more = kind[:3] + (kind[3] + (rule,),)
                self.assertLessEqual(hardness((more, givens)), before)
                told += 1
        self.assertGreater(told, 20)

    def test_large_kinds(self):
        dice = random.Random(75)
        told = []
        for _ in range(8):
            groups = [tuple(sorted(dice.sample(range(16), dice.randint(2, 4)))) for _ in range(4)]
            sums = [sum(FILLED[place] for place in group) for group in groups]
            rules = tuple(("sum", group, total, total) for group, total in zip(groups, sums))
            kind = latin(4, 4)[:3] + (latin(4, 4)[3] + rules,)
            givens = tuple(enumerate(FILLED))
            for given in dice.sample(givens, 16):
                rest = tuple(other for other in givens if other != given)
                givens = givens if other_filling((kind, rest), FILLED) else rest
            told.append(self.shown((kind, givens)))
        self.assertTrue({1, 2, 3} <= set(told), told)

    def shown(self, puzzle):
        """The hardness of a puzzle with one filling, shown by a row and by covers."""
        kind, sheet = puzzle[0], begin(puzzle)
        number = hardness(puzzle)
        row = row_up_to(puzzle, number)
        self.assertTrue(all(len(reason[0]) <= number for reason in row))
        self.assertEqual(led(kind, sheet, row), tuple((worth,) for worth in the_filling(puzzle)))
        self.assertIsNone(row_up_to(puzzle, number - 1))
        above = sheet_above(puzzle, number - 1)
        self.assertTrue(is_within(kind, above, sheet) and not is_settled(above))
        covers = covers_for(kind, above, number - 1)
        lots = itertools.combinations(range(len(kind[3])), number - 1)
        self.assertTrue(all(is_cover(kind, above, lot, cover) for lot, cover in zip(lots, covers)))
        return number


class Rows(unittest.TestCase):
    def test_against_all_fillings(self):
        told = [0, 0]
        for dice, kind, givens, right in puzzles(76, 250):
            number = hardness_plainly(right)
            for most in list(range(len(kind[3]) + 2)) + [12]:
                row = row_up_to((kind, givens), most)
                told[row is not None] += 1
                if number is None or number > most:
                    self.assertIsNone(row, (kind, givens, most))
                    continue
                left = led_plainly(self, kind, right.sheet, row, most)
                self.assertEqual(led(kind, right.sheet, row), left)
                self.assertTrue(is_settled(left))
                self.assertTrue(fills(kind, tuple(lot[0] for lot in left)))
        self.assertTrue(min(told) > 200, told)

    def test_settled_sheets_whose_filling_does_not_fill(self):
        # All places are given, and no row has to be made: but the filling does not fill the kind.
        puzzle = (SQUARE, ((0, 1), (1, 1), (2, 2), (3, 1)))
        for most in (0, 1, 12):
            self.assertIsNone(row_up_to(puzzle, most))
        # By the first rule alone one comes to 1, 1, which the other one excludes.
        kind = (1, 2, 2, (("sum", (0, 1), 2, 2), ("unlike", (0, 1))))
        self.assertIsNone(row_up_to((kind, ()), 1))
        self.assertIsNone(hardness((kind, ())))
        self.assertIsNone(sheet_above((kind, ()), 1))

    def test_several_fillings(self):
        for most in (0, 1, 4, 12):
            self.assertIsNone(row_up_to((SQUARE, ()), most))
            self.assertEqual(sheet_above((SQUARE, ()), most), whole_sheet(SQUARE))
        self.assertEqual(row_up_to((SQUARE, ((0, 1), (1, 2), (2, 2), (3, 1))), 0), ())
        self.assertEqual(row_up_to((FREE, ((0, 1), (1, 2))), 12), ())


class Above(unittest.TestCase):
    def test_against_all_fillings(self):
        told = [0, 0]
        for dice, kind, givens, right in puzzles(77, 250):
            ends = ends_of(right)
            for most in list(range(len(kind[3]) + 2)) + [12]:
                left = ends[min(most, len(kind[3]))]
                loose = any(len(lot) > 1 for lot in left)
                told[loose] += 1
                self.assertEqual(sheet_above((kind, givens), most), left if loose else None, (kind, givens, most))
        self.assertTrue(min(told) > 200, told)

    def test_hard_up_to_or_above(self):
        for dice, kind, givens, right in puzzles(78, 200):
            if the_filling((kind, givens)) is not None:
                for most in range(len(kind[3]) + 1):
                    row, above = row_up_to((kind, givens), most), sheet_above((kind, givens), most)
                    self.assertIs(row is None, above is not None)
                    self.assertIs(row is not None, hardness((kind, givens)) <= most)
                    if above is not None:
                        self.assertIsNotNone(covers_for(kind, above, most))
                        self.assertEqual(above, end(kind, right.sheet, most))
                        self.assertGreater(len(strikes_in(above)), len(above))


if __name__ == "__main__":
    unittest.main()
