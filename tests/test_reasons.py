"""Reasons: strikes and when they follow, ranks, least lots, reasons and rows: [13], [14], [15]."""
import random
import unittest

from helper import (STRANGE, Listed, all_lots, error_of, is_reason_plainly, is_tree_plainly, latin, listed, nested,
                    pairs_kind, some_givens, strikes_in, tries, with_worth, without_worth)

from onefilling import errors
from onefilling.fillings import is_tree, tree_for
from onefilling.kinds import begin, whole_sheet
from onefilling.reasons import follows, is_reason, least_lots, led, rank_of, reason_for, strikes_for

ALIKE = (1, 2, 2, (("steps", 0, 1, 0, 0), ("sum", (0, 1), 2, 3)))
BOTH = ((1, 2), (1, 2))
REASON = ((0, 1), 0, 2, ("cases", 1, (("rule", 0), ("rule", 1))))
SQUARE = (2, 2, 2, (("unlike", (0, 1)), ("unlike", (0, 2)), ("unlike", (1, 3)), ("unlike", (2, 3))))
# Three unlike ones of two worths: all three rules together leave nothing.
RING = (1, 3, 2, (("unlike", (0, 1)), ("unlike", (1, 2)), ("unlike", (0, 2))))


def some_strikes(dice, sheet, many):
    strikes = strikes_in(sheet)
    return dice.sample(strikes, min(many, len(strikes)))


class Following(unittest.TestCase):
    def test_against_all_fillings(self):
        told = [0, 0]
        for dice, kind, sheet, right in listed(21, 120):
            for strike in some_strikes(dice, sheet, 4):
                for lot in all_lots(len(kind[3])):
                    one = follows(kind, sheet, lot, strike)
                    self.assertIs(one, right.follows(sheet, lot, strike), (kind, sheet, lot, strike))
                    told[one] += 1
        self.assertTrue(min(told) > 1000, told)

    def test_from_more_rules_and_in_sheets_within(self):
        told = 0
        for dice, kind, sheet, right in listed(22, 150, 0):
            for strike in strikes_for(kind, sheet, len(kind[3]))[:4]:
                lot = least_lots(kind, sheet, strike, 12)[0]
                other = dice.choice([spot for spot in strikes_in(sheet) if spot != strike] or [None])
                for wider in all_lots(len(kind[3])):
                    if set(lot) <= set(wider):
                        self.assertTrue(follows(kind, sheet, wider, strike))
                        if other:
                            self.assertTrue(follows(kind, without_worth(sheet, *other), wider, strike))
                            told += 1
        self.assertGreater(told, 300)

    def test_from_no_rule(self):
        self.assertIs(follows(SQUARE, ((1,), (1, 2), (1, 2), (2,)), (), (1, 1)), False)
        self.assertIs(follows(SQUARE, ((1,), (1, 2), (), (2,)), (), (1, 1)), True)
        self.assertIs(follows((1, 1, 2, ()), ((1, 2),), (), (0, 2)), False)
        self.assertIs(follows((1, 1, 2, (("sum", (0,), 0, 0),)), ((1,),), (0,), (0, 1)), True)
        self.assertIs(follows((1, 1, 2, (("sum", (0,), 0, 0),)), ((1,),), (), (0, 1)), False)

    def test_the_last_worth_of_a_lot_may_follow(self):
        sheet = ((1,), (1,), (2,), (2,))
        self.assertIs(follows(SQUARE, sheet, (0,), (0, 1)), True)
        self.assertIs(follows(SQUARE, sheet, (1,), (0, 1)), False)
        self.assertEqual(strikes_for(SQUARE, sheet, 1), ((0, 1), (1, 1), (2, 2), (3, 2)))
        self.assertEqual(rank_of(SQUARE, sheet, (0, 1)), 1)

    def test_a_larger_kind(self):
        # In a square of 4 by 4 the first row's last lot has 4 alone as soon as the others have 1, 2, 3.
        kind = latin(4, 4)
        sheet = begin((kind, ((0, 1), (1, 2), (2, 3))))
        self.assertIs(follows(kind, sheet, (0,), (3, 4)), False)
        self.assertTrue(all(follows(kind, sheet, (0,), (3, worth)) for worth in (1, 2, 3)))
        # The columns and the other rows have each worth together, too, but not six of them.
        self.assertTrue(all(follows(kind, sheet, (1, 2, 3, 4, 5, 6, 7), (3, worth)) for worth in (1, 2, 3)))
        self.assertFalse(any(follows(kind, sheet, (2, 3, 4, 5, 6, 7), (3, worth)) for worth in (1, 2, 3, 4)))
        self.assertEqual(rank_of(kind, sheet, (7, 4)), 2)
        self.assertEqual(least_lots(kind, sheet, (7, 4), 2), ((0, 7),))


class Ranks(unittest.TestCase):
    def test_against_all_fillings(self):
        told = {}
        for dice, kind, sheet, right in listed(23, 200):
            for strike in some_strikes(dice, sheet, 3):
                least = right.least(sheet, strike)
                rank = min((len(lot) for lot in least), default=None)
                self.assertEqual(rank_of(kind, sheet, strike), rank, (kind, sheet, strike))
                for most in (0, 1, 2, len(kind[3]), 12):
                    self.assertEqual(least_lots(kind, sheet, strike, most),
                                     tuple(lot for lot in least if len(lot) <= most), (kind, sheet, strike, most))
                told[rank] = told.get(rank, 0) + 1
        self.assertTrue(all(told[rank] > 5 for rank in (None, 0, 1, 2)), told)

    def test_a_lot_is_a_least_one_exactly_if_each_of_its_rules_is_used(self):
        for dice, kind, sheet, right in listed(24, 60):
            for strike in some_strikes(dice, sheet, 2):
                inside = with_worth(sheet, *strike)
                least = least_lots(kind, sheet, strike, 12)
                for lot in all_lots(len(kind[3])):
                    rests = [lot[:at] + lot[at + 1:] for at in range(len(lot))]
                    shown = tree_for(kind, inside, lot) is not None
                    self.assertIs(lot in least, shown and all(tree_for(kind, inside, rest) is None for rest in rests))

    def test_by_hand(self):
        self.assertEqual([rank_of(RING, whole_sheet(RING), strike) for strike in strikes_in(whole_sheet(RING))], [3] * 6)
        self.assertEqual(least_lots(RING, whole_sheet(RING), (0, 1), 3), ((0, 1, 2),))
        self.assertEqual(least_lots(RING, whole_sheet(RING), (0, 1), 2), ())
        self.assertEqual(least_lots(RING, ((1,), (1, 2), (1, 2)), (1, 1), 12), ((0,),))
        self.assertEqual(least_lots(RING, ((1,), (1, 2), (1, 2)), (1, 2), 12), ((1, 2),))
        self.assertEqual(least_lots(RING, ((1,), (), (1, 2)), (2, 1), 12), ((),))
        self.assertEqual(least_lots(RING, ((1,), (), (1, 2)), (2, 1), 0), ((),))
        self.assertEqual(rank_of(RING, ((1,), (), (1, 2)), (2, 2)), 0)

    def test_the_rank_is_0_exactly_with_a_void_lot_elsewhere(self):
        told = [0, 0]
        for dice, kind, sheet in tries(25, 200):
            for strike in some_strikes(dice, sheet, 2):
                void = () in sheet
                self.assertIs(rank_of(kind, sheet, strike) == 0, void)
                told[void] += 1
        self.assertTrue(min(told) > 15, told)

    def test_least_lots_are_told_in_the_order_of_tuples(self):
        # 2 at place 0 is excluded by the last rule, and by the first two together.
        kind = (1, 2, 2, (("steps", 0, 1, 0, 0), ("sum", (0, 1), 2, 3), ("sum", (0,), 1, 1)))
        self.assertEqual(least_lots(kind, BOTH, (0, 2), 3), ((0, 1), (2,)))
        self.assertEqual(least_lots(kind, BOTH, (0, 2), 1), ((2,),))
        self.assertEqual(rank_of(kind, BOTH, (0, 2)), 1)

    def test_12_rules(self):
        # Twelve neighbours in a ring, eleven times unlike, once alike: with two worths only all together exclude.
        border = (0, 1, 2, 3, 7, 11, 15, 14, 13, 12, 8, 4)
        steps = [("steps", border[at], border[(at + 1) % 12], 1 if at else 0, 1 if at else 0) for at in range(12)]
        kind = (4, 4, 2, tuple(steps))
        self.assertEqual(rank_of(kind, whole_sheet(kind), (5, 1)), 12)
        self.assertEqual(least_lots(kind, whole_sheet(kind), (0, 2), 12), (tuple(range(12)),))
        self.assertEqual(least_lots(kind, whole_sheet(kind), (0, 2), 11), ())
        self.assertIsNone(reason_for(kind, whole_sheet(kind), (0, 2), 11))
        self.assertTrue(is_reason(kind, whole_sheet(kind), reason_for(kind, whole_sheet(kind), (0, 2), 12)))
        self.assertEqual(strikes_for(kind, whole_sheet(kind), 11), ())
        self.assertEqual(strikes_for(kind, whole_sheet(kind), 12), tuple(strikes_in(whole_sheet(kind))))


    def test_of_rules_that_tell_little_alone(self):
        dice = random.Random(33)
        told = {}
        for _ in range(150):
            kind = pairs_kind(dice)
            sheet = whole_sheet(kind)
            right = Listed(kind, sheet)
            for strike in some_strikes(dice, sheet, 2):
                least = right.least(sheet, strike)
                rank = min((len(lot) for lot in least), default=None)
                self.assertEqual(rank_of(kind, sheet, strike), rank, (kind, strike))
                self.assertEqual(least_lots(kind, sheet, strike, 12), tuple(least), (kind, strike))
                told[rank] = told.get(rank, 0) + 1
        self.assertTrue(all(told[rank] > 2 for rank in (None, 1, 2, 3)), told)


class Strikes(unittest.TestCase):
    def test_against_all_fillings(self):
        many = 0
        for dice, kind, sheet, right in listed(26, 150):
            for most in list(range(len(kind[3]) + 2)) + [12]:
                lots = [lot for lot in all_lots(len(kind[3])) if len(lot) <= most]
                told = strikes_for(kind, sheet, most)
                self.assertEqual(list(told), right.ready(sheet, lots), (kind, sheet, most))
                self.assertIs(type(told), tuple)
                many += len(told)
        self.assertGreater(many, 500)

    def test_void_lots_and_settled_sheets(self):
        self.assertEqual(strikes_for(SQUARE, ((), (1, 2), (), (2,)), 0), ((1, 1), (1, 2), (3, 2)))
        self.assertEqual(strikes_for(SQUARE, ((), (), (), ()), 12), ())
        self.assertEqual(strikes_for(SQUARE, ((1,), (2,), (2,), (1,)), 12), ())
        self.assertEqual(strikes_for(SQUARE, ((1,), (2,), (2,), (2,)), 0), ())
        # No filling in the sheet meets rule 2, so each strike follows from it, wherever it is.
        self.assertEqual(strikes_for(SQUARE, ((1,), (2,), (2,), (2,)), 1), ((0, 1), (1, 2), (2, 2), (3, 2)))
        self.assertEqual(strikes_for((2, 1, 3, ()), ((1, 2), (3,)), 12), ())
        self.assertEqual(strikes_for((2, 1, 3, ()), ((1, 2), ()), 0), ((0, 1), (0, 2)))

    def test_in_a_row_of_strikes_no_filling_is_lost(self):
        for dice, kind, sheet, right in listed(27, 100, 0):
            everyone = tuple(range(len(kind[3])))
            good = [filling for filling, met in right.told if met.issuperset(everyone)]
            left = sheet
            while strikes_for(kind, left, 12):
                left = without_worth(left, *dice.choice(strikes_for(kind, left, 12)))
            self.assertEqual(left, tuple(tuple(sorted({filling[place] for filling in good}))
                                         for place in range(len(sheet))))


class Reasons(unittest.TestCase):
    def test_against_all_fillings(self):
        told = [0, 0]
        for dice, kind, sheet, right in listed(28, 150):
            for strike in some_strikes(dice, sheet, 3):
                rank = min((len(lot) for lot in right.least(sheet, strike)), default=None)
                for most in (0, 1, 2, 3, 12):
                    reason = reason_for(kind, sheet, strike, most)
                    told[reason is not None] += 1
                    if rank is None or rank > most:
                        self.assertIsNone(reason)
                        continue
                    self.assertEqual((len(reason[0]), reason[1:3]), (rank, strike))
                    self.assertTrue(is_reason_plainly(kind, sheet, reason), (kind, sheet, reason))
                    self.assertIs(is_reason(kind, sheet, reason), True)
                    self.assertIs(is_tree(kind, with_worth(sheet, *strike), reason[0], reason[3]), True)
        self.assertTrue(min(told) > 300, told)

    def test_what_is_a_reason(self):
        lot, place, worth, tree = REASON
        for value, right in (
            (REASON, True), (((0, 1), 0, 1, tree), False), (((0, 1), 1, 2, tree), False),
            (((0, 1), 1, 2, ("cases", 0, tree[2])), True), (((0,), 0, 2, tree), False), (((1, 0), 0, 2, tree), False),
            (((0, 1, 1), 0, 2, tree), False), (((0, 1, 2), 0, 2, tree), False), (((), 0, 2, tree), False),
            (((0, 1), 0, 3, tree), False), (((0, 1), 2, 2, tree), False), (((0, 1), -2, 2, tree), False),
            (((0, 1), False, 2, tree), False), (((0, 1), 0, True, tree), False), (([0, 1], 0, 2, tree), False),
            (((False, True), 0, 2, tree), False), (list(REASON), False), (REASON[:3], False), (REASON + ((),), False),
            (((0, 1), 0, 2, list(tree)), False), (((0, 1), 0, 2, ()), False), (((0, 1), (0, 2), tree), False),
            (((0, 1), 0, 2, ("cases", 0, (tree,))), True), (((0, 1), 0, 2, ("rule", 0)), False),
        ):
            self.assertIs(is_reason(ALIKE, BOTH, value), right, value)
            self.assertIs(is_reason_plainly(ALIKE, BOTH, value), right, value)

    def test_more_rules_than_needed_may_stand_in_the_lot(self):
        sheet = ((2,), (1, 2))
        for lot in ((0,), (0, 1)):
            self.assertIs(is_reason(ALIKE, sheet, (lot, 1, 1, ("rule", 0))), True)
        self.assertIs(is_reason(ALIKE, sheet, ((1,), 1, 1, ("rule", 0))), False)

    def test_beside_a_void_lot(self):
        sheet = ((1, 2), ())
        for reason, right in ((((), 0, 2, ("void", 1)), True), (((1,), 0, 2, ("void", 1)), True),
                              (((), 0, 2, ("cases", 1, ())), True), (((1,), 0, 1, ("rule", 1)), True),
                              (((), 1, 1, ("void", 1)), False), (((), 0, 2, ("void", 0)), False)):
            self.assertIs(is_reason(ALIKE, sheet, reason), right, reason)
        self.assertEqual(reason_for(ALIKE, sheet, (0, 2), 0)[:3], ((), 0, 2))

    def test_any_value(self):
        for value in STRANGE:
            self.assertIs(is_reason(ALIKE, BOTH, value), False)
            for at in range(4):
                reason = REASON[:at] + (value,) + REASON[at + 1:]
                self.assertIs(is_reason(ALIKE, BOTH, reason), is_reason_plainly(ALIKE, BOTH, reason), reason)
            self.assertIs(is_reason(ALIKE, BOTH, ((0, value), 0, 2, REASON[3])), type(value) is int and value == 1)
        self.assertIs(is_reason(ALIKE, BOTH, nested(57, REASON)), False)

    def test_reasons_that_are_changed(self):
        told = [0, 0]
        for dice, kind, sheet, right in listed(29, 400):
            for strike in some_strikes(dice, sheet, 2):
                reason = reason_for(kind, sheet, strike, 12)
                for _ in range(4 if reason else 0):
                    at = dice.randrange(4)
                    other = (tuple(sorted(dice.sample(range(len(kind[3])), dice.randint(0, len(kind[3]))))),
                             dice.randrange(len(sheet)), dice.randint(1, kind[2]),
                             dice.choice((("void", 0), ("rule", 0), ("cases", strike[0], (reason[3],)))))[at]
                    value = reason[:at] + (other,) + reason[at + 1:]
                    one = is_reason(kind, sheet, value)
                    self.assertIs(one, is_reason_plainly(kind, sheet, value), (kind, sheet, value))
                    told[one] += 1
        self.assertTrue(min(told) > 100, told)


class Rows(unittest.TestCase):
    def test_by_hand(self):
        second = ((1,), 1, 2, ("rule", 1))
        then = ((0,), 1, 2, ("rule", 0))
        self.assertEqual(led(ALIKE, BOTH, ()), BOTH)
        self.assertEqual(led(ALIKE, BOTH, (REASON,)), ((1,), (1, 2)))
        self.assertEqual(led(ALIKE, BOTH, (REASON, then)), ((1,), (1,)))
        # Without the first one the second one is none.
        for row, index in (((then,), 0), ((second,), 0), ((REASON, REASON), 1), ((REASON, second), 1),
                           ((REASON, then, then), 2), ((REASON, None), 1), ((None, None), 0), (([], REASON), 0)):
            told = error_of(led, ALIKE, BOTH, row)
            self.assertEqual((told.kind, told.told), (errors.InvalidRow, {"index": index}))
        for row in (None, [REASON], "", 0, {}, [()], b"", set()):
            told = error_of(led, ALIKE, BOTH, row)
            self.assertEqual((told.kind, told.told), (errors.InvalidRow, {"index": None}))
        # A reason is a tuple, but no row.
        told = error_of(led, ALIKE, BOTH, REASON)
        self.assertEqual((told.kind, told.told), (errors.InvalidRow, {"index": 0}))

    def test_rows_lead_on(self):
        many = 0
        for dice, kind, sheet, right in listed(30, 120):
            row, left = (), sheet
            while strikes_for(kind, left, 2):
                strike = dice.choice(strikes_for(kind, left, 2))
                row += (reason_for(kind, left, strike, 2),)
                left = without_worth(left, *strike)
                self.assertEqual(led(kind, sheet, row), left)
                many += 1
            for at in range(len(row)):
                # What is struck cannot be struck again.
                told = error_of(led, kind, sheet, row + (row[at],))
                self.assertEqual((told.kind, told.told), (errors.InvalidRow, {"index": len(row)}))
        self.assertGreater(many, 200)

    def test_a_wrong_sheet_beside_an_empty_row(self):
        told = error_of(led, ALIKE, BOTH + BOTH, ())
        self.assertEqual((told.kind, told.told), (errors.InvalidSheet, {"given": BOTH + BOTH}))
        told = error_of(led, ALIKE[:3], BOTH + BOTH, ())
        self.assertEqual((told.kind, told.told), (errors.InvalidKind, {"given": ALIKE[:3]}))

    def test_any_value(self):
        for value in STRANGE:
            told = error_of(led, ALIKE, BOTH, value)
            if value == ():
                self.assertIsNone(told)
            else:
                self.assertEqual((told.kind, told.told),
                                 (errors.InvalidRow, {"index": 0 if type(value) is tuple else None}))
            told = error_of(led, ALIKE, BOTH, (REASON, value))
            self.assertEqual((told.kind, told.told), (errors.InvalidRow, {"index": 1}))

    def test_a_larger_kind(self):
        dice = random.Random(31)
        kind = latin(4, 4)
        puzzle = (kind, some_givens(dice, (1, 2, 3, 4, 3, 4, 1, 2, 2, 1, 4, 3, 4, 3, 2, 1), 6))
        left = begin(puzzle)
        row = ()
        while strikes_for(kind, left, 2):
            strike = dice.choice(strikes_for(kind, left, 2))
            row += (reason_for(kind, left, strike, 2),)
            left = without_worth(left, *strike)
        self.assertEqual(led(kind, begin(puzzle), row), left)


class Trees(unittest.TestCase):
    def test_the_trees_of_reasons_rest_on_the_lot_alone(self):
        for dice, kind, sheet, right in listed(32, 60, 0):
            for strike in strikes_for(kind, sheet, 12)[:3]:
                lot, place, worth, tree = reason_for(kind, sheet, strike, 12)
                self.assertTrue(is_tree_plainly(kind, with_worth(sheet, place, worth), lot, tree))


if __name__ == "__main__":
    unittest.main()
