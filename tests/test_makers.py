"""Lots of places that tell a filling, gaps, tight lots, what is made, idle givens: [23] to [26]."""
import itertools
import random
import unittest

from helper import (Listed, begin_plainly, error_of, filled_kinds, fillings_plainly, is_inside, is_settled,
                    latin, least_of_all, lots_for, lots_of_places, meets, sheets_with, some_givens,
                    whole_plainly)

from onefilling import errors
from onefilling.ends import end
from onefilling.fillings import fillings, the_filling
from onefilling.kinds import begin, fills, whole_sheet
from onefilling.makers import fewest, gaps, idle, is_told, is_tight, made, puzzle_from, tight_lots

ALIKE = (1, 2, 2, (("steps", 0, 1, 0, 0), ("sum", (0, 1), 2, 3)))
SQUARE = (2, 2, 2, (("unlike", (0, 1)), ("unlike", (0, 2)), ("unlike", (1, 3)), ("unlike", (2, 3))))
FREE = (2, 2, 3, ())
LATIN = latin(4, 4)
FILLED = (1, 2, 3, 4, 3, 4, 1, 2, 2, 1, 4, 3, 4, 3, 2, 1)


def numbers_for(kind):
    return list(range(len(kind[3]) + 2)) + [12]


def tells_plainly(right, filling, most, places):
    """Whether these places tell the filling, by the words of [23]; RIGHT lists all fillings of the whole sheet."""
    sheet = begin_plainly((right.kind, tuple((place, filling[place]) for place in places)))
    return is_settled(right.last(sheet, lots_for(right.kind, most)))


def telling_plainly(right, filling, most):
    return [lot for lot in lots_of_places(right.kind) if tells_plainly(right, filling, most, lot)]


def gaps_plainly(right, filling, most):
    """All gaps, least or not, by the words of [24]."""
    lots = lots_for(right.kind, most)
    found = set()
    for sheet in sheets_with(right.kind, filling):
        if not right.ready(sheet, lots):
            found.add(tuple(place for place, lot in enumerate(sheet) if len(lot) > 1))
    return found - {()}


class Told(unittest.TestCase):
    def test_against_all_fillings_for_each_lot(self):
        told = [0, 0]
        for dice, kind, filling in filled_kinds(301, 40):
            right = Listed(kind, whole_plainly(kind))
            for most in numbers_for(kind):
                for places in lots_of_places(kind):
                    one = tells_plainly(right, filling, most, places)
                    self.assertIs(is_told(kind, filling, most, places), one, (kind, filling, most, places))
                    told[one] += 1
        self.assertTrue(min(told) > 500, told)

    def test_by_all_rules_exactly_if_there_is_one_filling(self):
        for dice, kind, filling in filled_kinds(302, 60):
            for places in lots_of_places(kind):
                puzzle = puzzle_from(kind, filling, places)
                one = fillings_plainly(puzzle) == [filling]
                for most in (len(kind[3]), 12):
                    self.assertIs(is_told(kind, filling, most, places), one)

    def test_with_more_places_and_more_rules_still(self):
        for dice, kind, filling in filled_kinds(303, 40):
            for most in numbers_for(kind):
                told = {lot for lot in lots_of_places(kind) if is_told(kind, filling, most, lot)}
                for lot in told:
                    self.assertTrue({more for more in lots_of_places(kind) if set(lot) <= set(more)} <= told)
                    self.assertTrue(is_told(kind, filling, min(12, most + 1), lot))

    def test_puzzle_from(self):
        self.assertEqual(puzzle_from(SQUARE, (1, 2, 2, 1), (1, 3)), (SQUARE, ((1, 2), (3, 1))))
        self.assertEqual(puzzle_from(SQUARE, (1, 2, 2, 1), ()), (SQUARE, ()))
        for dice, kind, filling in filled_kinds(304, 20):
            for places in lots_of_places(kind):
                puzzle = puzzle_from(kind, filling, places)
                self.assertEqual(puzzle, (kind, tuple((place, filling[place]) for place in places)))
                left = end(kind, begin(puzzle), 12)
                self.assertTrue(is_inside(filling, left))


class Gaps(unittest.TestCase):
    def test_against_all_sheets(self):
        many = 0
        for dice, kind, filling in filled_kinds(305, 50, 4, 3):
            if kind[2] ** (kind[0] * kind[1]) > 81:
                continue
            right = Listed(kind, whole_plainly(kind))
            for most in numbers_for(kind):
                all_gaps = gaps_plainly(right, filling, most)
                told = gaps(kind, filling, most)
                self.assertEqual(told, least_of_all(all_gaps), (kind, filling, most))
                for places in lots_of_places(kind):
                    self.assertIs(is_told(kind, filling, most, places), all(meets(places, gap) for gap in all_gaps))
                many += len(told) > 1
        self.assertGreater(many, 40)

    def test_by_all_rules_they_are_the_least_differences(self):
        for dice, kind, filling in filled_kinds(306, 80):
            unlike = {tuple(place for place, worth in enumerate(other) if worth != filling[place])
                      for other in fillings_plainly((kind, ())) if other != filling}
            for most in (len(kind[3]), 12):
                self.assertEqual(gaps(kind, filling, most), least_of_all(unlike))


class Tight(unittest.TestCase):
    def test_against_all_lots(self):
        many = 0
        for dice, kind, filling in filled_kinds(307, 50):
            right = Listed(kind, whole_plainly(kind))
            for most in numbers_for(kind):
                told = telling_plainly(right, filling, most)
                least = least_of_all(told)
                self.assertEqual(tight_lots(kind, filling, most), least, (kind, filling, most))
                self.assertEqual(fewest(kind, filling, most), min(len(lot) for lot in told))
                many += len(least) > 2
        self.assertGreater(many, 15)

    def test_tight_lots_and_least_gaps_meet_each_other(self):
        for dice, kind, filling in filled_kinds(308, 60, 8, 5):
            lots = lots_of_places(kind)
            for most in (0, 1, 2, 12):
                some_gaps, tight = gaps(kind, filling, most), tight_lots(kind, filling, most)
                self.assertEqual(tight, least_of_all([lot for lot in lots if all(meets(lot, gap) for gap in some_gaps)]))
                self.assertEqual(some_gaps, least_of_all([lot for lot in lots[1:] if all(meets(lot, one) for one in tight)]))
                self.assertEqual(fewest(kind, filling, most), min(len(lot) for lot in tight))

    def test_tight_exactly_if_the_puzzle_is_for_12(self):
        for dice, kind, filling in filled_kinds(309, 60):
            tight = tight_lots(kind, filling, 12)
            for places in lots_of_places(kind):
                self.assertIs(is_tight(puzzle_from(kind, filling, places)), places in tight)

    def test_told_without_givens_and_none_that_can_be_left_out(self):
        one = (1, 2, 3, (("sum", (0, 1), 2, 2),))
        for most, lots in ((0, ((0, 1),)), (1, ((),)), (12, ((),))):
            self.assertEqual(tight_lots(one, (1, 1), most), lots)
            self.assertEqual(gaps(one, (1, 1), most), () if most else ((0,), (1,)))
            self.assertEqual(fewest(one, (1, 1), most), 0 if most else 2)
        for most in (0, 1, 12):
            self.assertEqual(tight_lots(FREE, (1, 2, 3, 1), most), ((0, 1, 2, 3),))
            self.assertEqual(gaps(FREE, (1, 2, 3, 1), most), ((0,), (1,), (2,), (3,)))
            self.assertEqual(fewest(FREE, (1, 2, 3, 1), most), 4)
            for order in itertools.permutations(range(4)):
                self.assertEqual(made(FREE, (1, 2, 3, 1), most, order), (0, 1, 2, 3))

    def test_a_floor_of_one_place(self):
        for kind, told in (((1, 1, 6, ()), False), ((1, 1, 6, (("sum", (0,), 4, 4),)), True),
                           ((1, 1, 2, (("count", (0,), (1,), 0, 0),)), True)):
            filling = (2,) if kind[2] == 2 else (4,)
            for most in (0, 1, 12):
                one = told and most > 0
                self.assertIs(is_told(kind, filling, most, ()), one)
                self.assertIs(is_told(kind, filling, most, (0,)), True)
                self.assertEqual(gaps(kind, filling, most), () if one else ((0,),))
                self.assertEqual(tight_lots(kind, filling, most), ((),) if one else ((0,),))
                self.assertEqual(made(kind, filling, most, (0,)), () if one else (0,))
                self.assertEqual(fewest(kind, filling, most), 0 if one else 1)

    def test_a_latin_square(self):
        # Its least differences: two by two, or two rows, or two columns, or more.
        for most in (1, 8, 12):
            some_gaps = gaps(LATIN, FILLED, most)
            self.assertEqual(min(len(gap) for gap in some_gaps), 4)
            self.assertEqual(len([gap for gap in some_gaps if len(gap) == 4]), 12)
            tight = tight_lots(LATIN, FILLED, most)
            self.assertEqual(fewest(LATIN, FILLED, most), 5)
            self.assertEqual(min(len(lot) for lot in tight), fewest(LATIN, FILLED, most))
            self.assertTrue(all(meets(lot, gap) for lot in tight for gap in some_gaps))
        dice = random.Random(310)
        for _ in range(12):
            lot = made(LATIN, FILLED, 12, tuple(dice.sample(range(16), 16)))
            self.assertIn(lot, tight)
            self.assertTrue(is_tight(puzzle_from(LATIN, FILLED, lot)))

    def test_a_sum_of_all_places(self):
        # One place up and one down: all pairs are gaps, so all places but one are needed.
        kind = (3, 3, 3, (("sum", tuple(range(9)), 18, 18),))
        filling = (2,) * 9
        self.assertEqual(gaps(kind, filling, 1), tuple(itertools.combinations(range(9), 2)))
        self.assertEqual(tight_lots(kind, filling, 1), tuple(itertools.combinations(range(9), 8)))
        self.assertEqual(fewest(kind, filling, 12), 8)
        self.assertEqual(gaps(kind, filling, 0), tuple((place,) for place in range(9)))


class Made(unittest.TestCase):
    def test_by_all_orders(self):
        for dice, kind, filling in filled_kinds(311, 40, 4):
            for most in numbers_for(kind):
                orders = itertools.permutations(range(len(filling)))
                lots = {order: made(kind, filling, most, order) for order in orders}
                self.assertEqual(tuple(sorted(set(lots.values()))), tight_lots(kind, filling, most))
                for order, lot in lots.items():
                    left = list(range(len(filling)))
                    for place in order:
                        rest = [other for other in left if other != place]
                        left = rest if is_told(kind, filling, most, tuple(rest)) else left
                    self.assertEqual(lot, tuple(left), (kind, filling, most, order))

    def test_each_tight_lot_by_the_others_first(self):
        for dice, kind, filling in filled_kinds(312, 40):
            for most in (0, 1, 2, 12):
                for lot in tight_lots(kind, filling, most):
                    order = tuple(place for place in range(len(filling)) if place not in lot) + lot
                    self.assertEqual(made(kind, filling, most, order), lot)


class Idle(unittest.TestCase):
    def test_against_all_fillings(self):
        told = [0, 0, 0]
        dice = random.Random(313)
        for _, kind, filling in filled_kinds(313, 300):
            if dice.random() < .2:
                filling = tuple(dice.randint(1, kind[2]) for _ in filling)
            puzzle = (kind, some_givens(dice, filling, dice.randint(0, len(filling))))
            if len(fillings_plainly(puzzle)) != 1:
                wrong = error_of(idle, puzzle)
                self.assertEqual((wrong.kind, wrong.told), (errors.NotOne, {}))
                self.assertIs(is_tight(puzzle), False)
                told[2] += 1
                continue
            places = tuple(given[0] for given in puzzle[1]
                           if len(fillings_plainly((kind, tuple(one for one in puzzle[1] if one != given)))) == 1)
            self.assertEqual(idle(puzzle), places, puzzle)
            self.assertIs(is_tight(puzzle), places == ())
            told[places == ()] += 1
        self.assertTrue(min(told) > 15, told)

    def test_none_or_several_fillings(self):
        for puzzle in ((SQUARE, ()), (SQUARE, ((0, 1), (3, 2))), (FREE, ((0, 1),)), ((1, 1, 2, (("sum", (0,), 9, 9),)), ()),
                       (SQUARE, ((0, 1), (1, 1), (2, 1), (3, 1)))):
            wrong = error_of(idle, puzzle)
            self.assertEqual((wrong.kind, wrong.told), (errors.NotOne, {}))
            self.assertIs(is_tight(puzzle), False)

    def test_idle_and_tight(self):
        self.assertEqual(idle((SQUARE, ((0, 1), (1, 2), (2, 2), (3, 1)))), (0, 1, 2, 3))
        self.assertEqual(idle((SQUARE, ((3, 2),))), ())
        self.assertEqual(idle((ALIKE, ())), ())
        self.assertIs(is_tight((ALIKE, ())), True)
        self.assertIs(is_tight((ALIKE, ((0, 1),))), False)
        self.assertEqual(idle((FREE, ((0, 1), (1, 2), (2, 3), (3, 1)))), ())
        self.assertIs(is_tight((FREE, ((0, 1), (1, 2), (2, 3), (3, 1)))), True)


class Last(unittest.TestCase):
    def test_a_filling_that_does_not_fill_is_refused(self):
        for function, more in ((puzzle_from, ((),)), (is_told, (1, ())), (gaps, (1,)), (tight_lots, (1,)), (fewest, (1,)),
                               (made, (1, (0, 1, 2, 3)))):
            for filling in ((1, 1, 2, 2), (1, 2, 1, 2), (2, 2, 2, 2)):
                wrong = error_of(function, SQUARE, filling, *more)
                self.assertEqual((wrong.kind, wrong.told), (errors.InvalidFilling, {"given": filling}))
            for filling in fillings(SQUARE, whole_sheet(SQUARE), 9):
                self.assertTrue(fills(SQUARE, filling))
                self.assertIsNone(error_of(function, SQUARE, filling, *more))

    def test_not_one_is_told_last(self):
        self.assertEqual(error_of(idle, (SQUARE, ((0, 3),))).kind, errors.InvalidPuzzle)
        self.assertEqual(error_of(idle, (SQUARE, ())).kind, errors.NotOne)

    def test_what_is_made_is_a_puzzle_with_its_filling(self):
        for dice, kind, filling in filled_kinds(314, 60, 9, 5):
            order = tuple(dice.sample(range(len(filling)), len(filling)))
            puzzle = puzzle_from(kind, filling, made(kind, filling, 12, order))
            self.assertEqual(the_filling(puzzle), filling)
            self.assertEqual(idle(puzzle), ())
            self.assertTrue(is_tight(puzzle))


if __name__ == "__main__":
    unittest.main()
