"""Sheets: lying in one, within, whole, begin, alone, struck: [6], [8], [11]."""
import itertools
import unittest

from helper import all_in, some_sheet, tries, with_worth

from onefilling.kinds import alone, begin, is_sheet, is_within, lies_in, struck, whole_sheet

SQUARE = (2, 2, 2, (("unlike", (0, 1)),))
LOTS = [lot for size in range(4) for lot in itertools.combinations((1, 2, 3), size)]


class Sheets(unittest.TestCase):
    def test_whole_sheets(self):
        self.assertEqual(whole_sheet((1, 1, 2, ())), ((1, 2),))
        self.assertEqual(whole_sheet((4, 4, 6, ())), ((1, 2, 3, 4, 5, 6),) * 16)
        self.assertEqual(whole_sheet((3, 2, 4, (("sum", (0,), 1, 2),))), ((1, 2, 3, 4),) * 6)

    def test_begin(self):
        self.assertEqual(begin((SQUARE, ())), ((1, 2),) * 4)
        self.assertEqual(begin((SQUARE, ((1, 2), (3, 1)))), ((1, 2), (2,), (1, 2), (1,)))
        self.assertEqual(begin((SQUARE, ((0, 1), (1, 1), (2, 2), (3, 2)))), ((1,), (1,), (2,), (2,)))
        self.assertEqual(begin(((1, 1, 6, ()), ((0, 6),))), ((6,),))

    def test_lies_in(self):
        sheet = ((1,), (1, 2), (), (1, 2))
        self.assertIs(lies_in(SQUARE, (1, 2, 1, 1), sheet), False)
        self.assertIs(lies_in(SQUARE, (1, 2, 1, 1), alone(SQUARE, sheet, 2, 1)), True)
        self.assertIs(lies_in(SQUARE, (2, 2, 1, 1), alone(SQUARE, sheet, 2, 1)), False)
        for dice, kind, sheet in tries(3, 100):
            inside = set(all_in(sheet))
            for filling in itertools.product(range(1, kind[2] + 1), repeat=kind[0] * kind[1]):
                self.assertIs(lies_in(kind, filling, sheet), filling in inside)

    def test_is_within_lot_by_lot(self):
        kind = (1, 2, 3, ())
        for first, second, third, fourth in itertools.product(LOTS, repeat=4):
            right = set(first) <= set(third) and set(second) <= set(fourth)
            self.assertIs(is_within(kind, (first, second), (third, fourth)), right)

    def test_within_tells_no_filling_more(self):
        for dice, kind, sheet in tries(4, 150):
            other = some_sheet(dice, kind)
            if is_within(kind, sheet, other):
                self.assertLessEqual(set(all_in(sheet)), set(all_in(other)))
            self.assertTrue(is_within(kind, sheet, sheet))
            self.assertTrue(is_within(kind, sheet, whole_sheet(kind)))

    def test_a_void_lot_is_within_each(self):
        self.assertTrue(is_within(SQUARE, ((),) * 4, ((), (1,), (2,), (1, 2))))
        self.assertFalse(is_within(SQUARE, ((), (1,), (2,), (1, 2)), ((),) * 4))

    def test_alone_whether_it_was_there_or_not(self):
        for dice, kind, sheet in tries(5, 100):
            for place, worth in itertools.product(range(len(sheet)), range(1, kind[2] + 1)):
                told = alone(kind, sheet, place, worth)
                self.assertEqual(told, with_worth(sheet, place, worth))
                self.assertTrue(is_sheet(kind, told))

    def test_struck_the_same_if_it_was_not_there(self):
        for dice, kind, sheet in tries(6, 100):
            for place, worth in itertools.product(range(len(sheet)), range(1, kind[2] + 1)):
                told = struck(kind, sheet, place, worth)
                left = tuple(other for other in sheet[place] if other != worth)
                self.assertEqual(told, sheet[:place] + (left,) + sheet[place + 1:])
                self.assertTrue(is_sheet(kind, told) and is_within(kind, told, sheet))
                if worth not in sheet[place]:
                    self.assertEqual(told, sheet)


if __name__ == "__main__":
    unittest.main()
