"""Fillings and trees: [10], [11], against all fillings of small kinds, one by one."""
import random
import unittest

from helper import (SORTS, STRANGE, all_lots, good_in, holds_plainly, is_tree_plainly, latin, some_rule, some_sheet,
                    tries, with_worth)

from onefilling.fillings import filling_in, fillings, is_tree, other_filling, the_filling, tree_for
from onefilling.kinds import begin, fills, is_kind, lies_in, whole_sheet

SQUARE = (2, 2, 2, (("unlike", (0, 1)), ("unlike", (0, 2)), ("unlike", (1, 3)), ("unlike", (2, 3))))
FREE = (2, 2, 2, ())


def all_rules(kind):
    return tuple(range(len(kind[3])))


class Fillings(unittest.TestCase):
    def test_the_first_ones_ascending(self):
        for dice, kind, sheet in tries(7, 300):
            right = good_in(kind, sheet, all_rules(kind))
            for most in (0, 1, 2, 3, len(right), len(right) + 1, 1000):
                self.assertEqual(fillings(kind, sheet, min(most, 1000)), tuple(right[:most]), (kind, sheet, most))

    def test_up_to_1000(self):
        whole = whole_sheet((4, 4, 6, ()))
        told = fillings((4, 4, 6, ()), whole, 1000)
        self.assertEqual((len(told), told[0], told[1], told[6]), (1000, (1,) * 16, (1,) * 15 + (2,), (1,) * 14 + (2, 1)))
        self.assertEqual(list(told), sorted(set(told)))
        self.assertEqual(fillings((4, 4, 6, ()), whole, 999), told[:999])
        self.assertEqual(fillings(FREE, whole_sheet(FREE), 0), ())
        self.assertEqual(fillings(FREE, whole_sheet(FREE), 15), fillings(FREE, whole_sheet(FREE), 1000)[:15])
        self.assertEqual(len(fillings(FREE, whole_sheet(FREE), 1000)), 16)

    def test_how_many_there_are(self):
        self.assertEqual(len(fillings(latin(3, 3), whole_sheet(latin(3, 3)), 1000)), 12)
        self.assertEqual(len(fillings(latin(4, 4), whole_sheet(latin(4, 4)), 1000)), 576)
        self.assertEqual(fillings(latin(4, 3), whole_sheet(latin(4, 3)), 1000), ())
        self.assertEqual(len(fillings(latin(3, 4), whole_sheet(latin(3, 4)), 1000)), 1000)

    def test_one_place_and_void_lots(self):
        one = (1, 1, 2, (("sum", (0,), 2, 2),))
        self.assertEqual(fillings(one, ((1, 2),), 9), ((2,),))
        self.assertEqual(fillings(one, ((1,),), 9), ())
        self.assertEqual(fillings(one, ((),), 9), ())
        self.assertEqual(fillings((1, 1, 2, ()), ((),), 9), ())
        self.assertEqual(fillings((1, 2, 2, ()), ((), (1, 2)), 9), ())
        self.assertEqual(fillings((1, 2, 2, ()), ((1, 2), ()), 9), ())

    def test_the_filling_of_a_puzzle(self):
        told = [0, 0, 0]
        for dice, kind, sheet in tries(8, 300):
            places = sorted(dice.sample(range(len(sheet)), dice.randint(0, len(sheet))))
            puzzle = (kind, tuple((place, dice.randint(1, kind[2])) for place in places))
            right = good_in(kind, begin(puzzle), all_rules(kind))
            told[min(2, len(right))] += 1
            self.assertEqual(the_filling(puzzle), right[0] if len(right) == 1 else None)
            for filling in right[:3] + [tuple(dice.randint(1, kind[2]) for _ in sheet)]:
                other = other_filling(puzzle, filling)
                others = [found for found in right if found != filling]
                if others:
                    self.assertIn(other, others)
                else:
                    self.assertIsNone(other)
        self.assertTrue(min(told) > 20, told)

    def test_other_filling_of_a_filling_that_is_none_of_the_puzzles(self):
        self.assertEqual(other_filling((SQUARE, ((0, 1),)), (1, 1, 1, 1)), (1, 2, 2, 1))
        self.assertIsNone(other_filling((SQUARE, ((0, 1),)), (1, 2, 2, 1)))
        self.assertEqual(other_filling((SQUARE, ()), (2, 1, 1, 2)), (1, 2, 2, 1))
        self.assertEqual(other_filling((SQUARE, ()), (1, 2, 2, 1)), (2, 1, 1, 2))
        self.assertIsNone(other_filling((SQUARE, ((0, 1), (3, 2))), (1, 2, 2, 1)))

    def test_all_given(self):
        self.assertEqual(the_filling((SQUARE, ((0, 1), (1, 2), (2, 2), (3, 1)))), (1, 2, 2, 1))
        self.assertIsNone(the_filling((SQUARE, ((0, 1), (1, 2), (2, 1), (3, 2)))))
        self.assertEqual(the_filling(((4, 4, 6, ()), tuple((place, 5) for place in range(16)))), (5,) * 16)

    def test_with_more_givens_there_are_no_more(self):
        for dice, kind, sheet in tries(9, 60):
            givens = tuple((place, dice.randint(1, kind[2])) for place in range(len(sheet)) if dice.random() < .5)
            few = set(fillings(kind, begin((kind, givens)), 1000))
            for place in range(len(givens)):
                more = set(fillings(kind, begin((kind, givens[:place] + givens[place + 1:])), 1000))
                self.assertTrue(few <= more or len(more) == 1000)

    def test_large_kinds(self):
        # A square of 4 by 4 with sums, whose fillings are told by what the rules say alone.
        lines = [tuple(range(row * 4, row * 4 + 4)) for row in range(4)] + [tuple(range(c, 16, 4)) for c in range(4)]
        kind = (4, 4, 6, tuple([("sum", line, 14, 14) for line in lines] + [("unlike", line) for line in lines[:4]]))
        told = fillings(kind, whole_sheet(kind), 20)
        self.assertEqual(len(told), 20)
        self.assertEqual(list(told), sorted(set(told)))
        self.assertTrue(all(holds_plainly(kind, rule, filling) for rule in kind[3] for filling in told))
        self.assertEqual(the_filling((kind, tuple(enumerate(told[3])))), told[3])


class InSheets(unittest.TestCase):
    def test_a_filling_or_a_tree_for_each_lot(self):
        told = [0, 0]
        for dice, kind, sheet in tries(10, 150):
            for lot in all_lots(len(kind[3])):
                right = good_in(kind, sheet, lot)
                filling = filling_in(kind, sheet, lot)
                tree = tree_for(kind, sheet, lot)
                told[not right] += 1
                if right:
                    self.assertIn(filling, right)
                    self.assertIsNone(tree)
                else:
                    self.assertIsNone(filling)
                    self.assertTrue(is_tree_plainly(kind, sheet, lot, tree), (kind, sheet, lot, tree))
                    self.assertIs(is_tree(kind, sheet, lot, tree), True)
        self.assertTrue(min(told) > 500, told)

    def test_without_rules(self):
        for lot_of in (FREE, SQUARE):
            self.assertIn(filling_in(lot_of, ((1, 2), (2,), (1,), (1, 2)), ()),
                          [(a, 2, 1, b) for a in (1, 2) for b in (1, 2)])
            self.assertIsNone(tree_for(lot_of, ((1, 2), (2,), (1,), (1, 2)), ()))
            self.assertIsNone(filling_in(lot_of, ((1, 2), (), (1,), (1, 2)), ()))
            self.assertTrue(is_tree(lot_of, ((1, 2), (), (1,), ()), (), tree_for(lot_of, ((1, 2), (), (1,), ()), ())))

    def test_more_rules_than_one_are_needed(self):
        # No pair of the four rules is broken by two worths alone; all of them by an odd ring.
        ring = (1, 3, 2, (("unlike", (0, 1)), ("unlike", (1, 2)), ("unlike", (0, 2))))
        whole = whole_sheet(ring)
        for lot in ((0, 1), (0, 2), (1, 2), (0,)):
            self.assertIsNone(tree_for(ring, whole, lot))
            self.assertIsNotNone(filling_in(ring, whole, lot))
        tree = tree_for(ring, whole, (0, 1, 2))
        self.assertTrue(is_tree_plainly(ring, whole, (0, 1, 2), tree))
        self.assertEqual(tree[0], "cases")
        self.assertFalse(is_tree(ring, whole, (0, 1), tree))

    def test_large_kinds(self):
        dice = random.Random(11)
        told = [0, 0]
        for _ in range(100):
            worths = dice.randint(2, 6)
            rules = tuple(some_rule(dice, 16, worths, dice.choice(SORTS)) for _ in range(dice.randint(1, 4)))
            kind = (4, 4, worths, rules)
            self.assertTrue(is_kind(kind))
            sheet = some_sheet(dice, kind, 0)
            lot = all_rules(kind)
            filling, tree = filling_in(kind, sheet, lot), tree_for(kind, sheet, lot)
            told[filling is None] += 1
            self.assertIs(filling is None, tree is not None)
            if filling is None:
                self.assertTrue(is_tree(kind, sheet, lot, tree))
                self.assertEqual(fillings(kind, sheet, 1), ())
            else:
                self.assertTrue(lies_in(kind, filling, sheet) and fills(kind, filling))
                self.assertTrue(all(holds_plainly(kind, rule, filling) for rule in rules))
                self.assertLessEqual(fillings(kind, sheet, 1)[0], filling)
        self.assertTrue(min(told) > 5, told)

    def test_a_latin_square_that_cannot_be_ended(self):
        # In the first row 4 alone is left for both of the last places.
        kind = latin(4, 4)
        sheet = begin((kind, ((0, 1), (1, 2), (6, 3), (11, 3))))
        tree = tree_for(kind, sheet, all_rules(kind))
        self.assertTrue(is_tree(kind, sheet, all_rules(kind), tree))
        self.assertIsNone(filling_in(kind, sheet, all_rules(kind)))
        self.assertIsNone(the_filling((kind, ((0, 1), (1, 2), (6, 3), (11, 3)))))


def settled_deep(deep, leaf):
    """Cases at a settled place, one in another, so deep."""
    tree = leaf
    for _ in range(deep):
        tree = ("cases", 0, (tree,))
    return tree


class Trees(unittest.TestCase):
    SHEET = ((1,), (1, 2), (1, 2), (2,))

    def told(self, tree, right, sheet=None, lot=(0, 2), kind=SQUARE):
        sheet = self.SHEET if sheet is None else sheet
        self.assertIs(is_tree(kind, sheet, lot, tree), right, tree)
        self.assertIs(is_tree_plainly(kind, sheet, lot, tree), right, tree)

    def test_cases(self):
        self.told(("cases", 1, (("rule", 0), ("rule", 2))), True)
        self.told(("cases", 1, (("rule", 2), ("rule", 0))), False)
        self.told(("cases", 2, (("rule", 0), ("rule", 2))), False)
        self.told(("cases", 0, (("cases", 1, (("rule", 0), ("rule", 2))),)), True)
        self.told(("cases", 1, (("rule", 0), ("cases", 1, (("rule", 2),)))), True)
        self.told(("cases", 1, (("rule", 0), ("cases", 1, (("rule", 0), ("rule", 2))))), False)

    def test_rules(self):
        barred = ((1,), (1,), (1, 2), (2,))
        self.told(("rule", 0), True, barred)
        self.told(("rule", 2), False, barred)
        self.told(("rule", 0), False, barred, (1, 2))
        self.told(("rule", 0), False, barred, ())
        for index in (True, False, "0", None, (0,), [0], {}, -4, 4, 10 ** 399):
            self.told(("rule", index), False, barred, (0, 1, 2, 3))

    def test_void_lots(self):
        sheet = ((), (1, 2), (1,), ())
        for lot in ((), (0,), (0, 1, 2, 3)):
            self.told(("void", 0), True, sheet, lot)
            self.told(("void", 3), True, sheet, lot)
            self.told(("void", 1), False, sheet, lot)
            self.told(("cases", 0, ()), True, sheet, lot)
            self.told(("cases", 3, ()), True, sheet, lot)
            self.told(("cases", 0, (("void", 3),)), False, sheet, lot)
            self.told(("cases", 1, ()), False, sheet, lot)
            self.told(("cases", 2, ()), False, sheet, lot)
            self.told(("cases", 1, (("void", 0), ("cases", 3, ()))), True, sheet, lot)
            self.told(("cases", 1, (("void", 0), ("void", 2))), False, sheet, lot)
            for index in range(4):
                self.told(("rule", index), index in lot, sheet, lot)
        for place in (False, "0", None, (0,), -1, -4, 4, 10 ** 399):
            self.told(("void", place), False, sheet)
            self.told(("cases", place, ()), False, sheet)

    def test_up_to_20_cases_deep(self):
        barred = ((1,), (1,), (1,), (2,))
        for deep in range(29):
            self.told(settled_deep(deep, ("rule", 0)), deep <= 20, barred)
        sheet = ((1,), (), (1,), (2,))
        for deep in range(28):
            self.told(settled_deep(deep, ("void", 1)), deep <= 20, sheet)
            self.told(settled_deep(deep, ("cases", 1, ())), deep <= 19, sheet)
            self.told(settled_deep(deep, ("cases", 2, (("void", 1),))), deep <= 19, sheet)

    def test_any_value(self):
        for value in STRANGE:
            self.told(value, False)
            self.told(("cases", value, (("rule", 0), ("rule", 2))), type(value) is int and value == 1)
            self.told(("cases", 1, value), False)
            self.told(("cases", 1, (("rule", 0), value)), False)
            self.told((value, 1, (("rule", 0), ("rule", 2))), False)
            self.told((value, 0), False, ((1,), (1,), (1,), (1,)))
        for value in (("rule",), ("rule", 0, 0), ("rule", 0, ()), ("void", 0, ()), ("cases", 0), ("cases", 0, (), ()),
                      ["rule", 0], ("cases", 1, [("rule", 0), ("rule", 2)]), (("rule", 0),), (("rule", 0), ("rule", 2)),
                      "rule", ("rule", (0,)), ("case", 1, (("rule", 0), ("rule", 2))), ("Rule", 0), (b"rule", 0)):
            self.told(value, False)
            self.told(value, False, ((1,), (1,), (1,), (1,)))
            self.told(value, False, ((), (1,), (1,), (1,)))

    def test_trees_that_are_changed(self):
        told = [0, 0]
        for dice, kind, sheet in tries(12, 1500):
            lot = tuple(sorted(dice.sample(range(len(kind[3])), dice.randint(0, len(kind[3])))))
            tree = tree_for(kind, sheet, lot)
            if tree is None or len(sheet) > 6:
                continue
            for _ in range(8):
                other = changed(dice, kind, sheet, tree)
                right = is_tree_plainly(kind, sheet, lot, other)
                told[right] += 1
                self.assertIs(is_tree(kind, sheet, lot, other), right, (kind, sheet, lot, other))
        self.assertTrue(min(told) > 300, told)


def changed(dice, kind, sheet, tree):
    """The tree with a change somewhere in it."""
    if tree[0] == "cases" and tree[2] and dice.random() < .7:
        at = dice.randrange(len(tree[2]))
        if at < len(sheet[tree[1]]):
            inner = changed(dice, kind, with_worth(sheet, tree[1], sheet[tree[1]][at]), tree[2][at])
            return (tree[0], tree[1], tree[2][:at] + (inner,) + tree[2][at + 1:])
    place = dice.randrange(len(sheet))
    return dice.choice((
        ("rule", dice.randrange(max(1, len(kind[3])))), ("void", place), ("cases", place, (tree,) * len(sheet[place])),
        tree + (0,), tree[:-1], ("cases", place, (tree,)), ("cases", place, ()), tree[:1] + (place,) + tree[2:],
    ))


if __name__ == "__main__":
    unittest.main()
