"""When rules hold, and when they are barred: [7], [9]. Small kinds are gone through filling by filling."""
import itertools
import random
import unittest

from helper import (FLOORS, SORTS, all_in, are_neighbours, good_in, holds_plainly, most_worths, some_rule, some_sheet,
                    tries)

from onefilling.kinds import fills, holds, is_barred, is_kind


def kind_with(rows, columns, worths, *rules):
    kind = (rows, columns, worths, rules)
    assert is_kind(kind), kind
    return kind


def barred(kind, sheet):
    """For each rule of the kind whether it is barred."""
    return [is_barred(kind, index, sheet) for index in range(len(kind[3]))]


class Holding(unittest.TestCase):
    def told(self, kind, good, bad):
        """The first rule holds for the good fillings alone; both are written as figures."""
        for words, right in ((good, True), (bad, False)):
            for word in words.split():
                filling = tuple(int(figure) for figure in word)
                self.assertIs(holds(kind, 0, filling), right, word)
                self.assertIs(fills(kind, filling), right, word)

    def test_unlike(self):
        self.told(kind_with(1, 4, 3, ("unlike", (0, 1, 3))), "1213 1223 3112", "1123 1211 3313 1212")
        self.told(kind_with(1, 4, 3, ("unlike", (0, 1, 2, 3))), "", "1231 1123 1111")

    def test_sum(self):
        self.told(kind_with(1, 3, 6, ("sum", (0, 2), 4, 6)), "133 263 155 461 511", "111 161 616 566")
        self.told(kind_with(1, 2, 2, ("sum", (0,), 0, 0)), "", "11 12 22")
        self.told(kind_with(1, 2, 2, ("sum", (1,), 0, 99)), "11 12 22", "")

    def test_below_and_steps(self):
        self.told(kind_with(1, 2, 3, ("below", 1, 0)), "21 31 32", "11 12 13 22 23 33")
        self.told(kind_with(1, 2, 4, ("steps", 0, 1, 1, 2)), "12 21 13 31 24 42 34", "11 22 14 41")
        self.told(kind_with(1, 2, 3, ("steps", 1, 0, 0, 0)), "11 22 33", "12 21 31")
        self.told(kind_with(1, 2, 6, ("steps", 1, 0, 5, 99)), "16 61", "15 26 11")

    def test_count(self):
        self.told(kind_with(1, 4, 3, ("count", (0, 1, 3), (1, 3), 1, 2)), "1222 1322 2213 1232", "2222 2232 1111 3131")
        self.told(kind_with(1, 2, 2, ("count", (0, 1), (1, 2), 2, 2)), "11 12 21 22", "")
        self.told(kind_with(1, 2, 2, ("count", (0, 1), (2,), 0, 0)), "11", "12 21 22")

    def test_words_go_by_the_order_of_the_way(self):
        self.told(kind_with(1, 3, 3, ("words", (2, 0), ((1, 2), (3, 3)))), "211 231 313 333", "112 122 132 331")
        self.told(kind_with(1, 2, 2, ("words", (1,), ((2,),))), "12 22", "11 21")

    def test_runs(self):
        self.told(kind_with(1, 4, 3, ("runs", (0, 1, 2, 3), 1, (2, 1))), "1121 1131", "1111 1211 1112 1122 2112 2222")
        self.told(kind_with(1, 4, 2, ("runs", (0, 1, 2, 3), 1, (1, 2))), "1211", "1121 2111 1111 1122")
        self.told(kind_with(1, 4, 2, ("runs", (0, 1, 2, 3), 2, ())), "1111", "1112 2222 1211")
        self.told(kind_with(1, 4, 2, ("runs", (0, 1, 2, 3), 2, (1,))), "1112 2111 1211", "1111 1122 2121 2222")
        # Along the way the places 0 and 2 stand behind one another.
        self.told(kind_with(1, 4, 2, ("runs", (1, 3, 0, 2), 2, (2,))), "2121 1212 2112", "2211 1111 1221 2222")
        self.told(kind_with(1, 1, 2, ("runs", (0,), 1, (1,))), "1", "2")
        self.told(kind_with(1, 1, 2, ("runs", (0,), 1, (2,))), "", "1 2")
        self.told(kind_with(1, 4, 2, ("runs", (0, 1, 2, 3), 1, (16,) * 8)), "", "1111 1212")

    def test_seen(self):
        self.told(kind_with(1, 4, 4, ("seen", (0, 1, 2, 3), 2)), "1211 1222 3141 1411", "1111 1234 4321 1231")
        self.told(kind_with(1, 4, 4, ("seen", (3, 2, 1, 0), 1)), "1111 1234 2224", "4321 2211 1121")
        self.told(kind_with(1, 2, 2, ("seen", (0, 1), 0)), "", "11 12 21 22")
        self.told(kind_with(1, 2, 2, ("seen", (1,), 1)), "11 12 21 22", "")
        self.told(kind_with(1, 2, 2, ("seen", (0, 1), 16)), "", "11 12 21 22")

    def test_joined(self):
        self.told(kind_with(2, 2, 3, ("joined", (2, 3))), "1111 2111 2311 3121 1213 2333 1123", "2112 1231 1321 1331")
        self.told(kind_with(2, 3, 2, ("joined", (2,))), "222111 211211 222212", "211112 212212 211121 112211")
        self.told(kind_with(1, 3, 2, ("joined", (1,))), "112 222 122 111", "121")
        # The last place of a row and the first one of the next are no neighbours.
        self.told(kind_with(2, 2, 2, ("joined", (2,))), "2222 2212", "1221 2112")
        self.told(kind_with(3, 3, 2, ("joined", (2,))), "222112222 222122222", "112211111 222111222")

    def test_joined_on_each_floor(self):
        for rows, columns in itertools.product(range(1, 5), repeat=2):
            kind = kind_with(rows, columns, 2, ("joined", (2,)))
            for first, second in itertools.combinations(range(rows * columns), 2):
                filling = tuple(2 if place in (first, second) else 1 for place in range(rows * columns))
                right = are_neighbours(kind, first, second)
                self.assertIs(holds(kind, 0, filling), right, (kind, first, second))
                self.assertIs(is_barred(kind, 0, tuple((worth,) for worth in filling)), not right)

    def test_each_rule_for_each_filling_of_small_kinds(self):
        for dice, kind, sheet in tries(1, 250):
            for filling in all_in(sheet):
                right = [holds_plainly(kind, rule, filling) for rule in kind[3]]
                self.assertEqual([holds(kind, index, filling) for index in range(len(right))], right, (kind, filling))
                self.assertIs(fills(kind, filling), all(right))

    def test_a_kind_without_rules_is_filled_by_each_filling(self):
        for filling in itertools.product((1, 2), repeat=4):
            self.assertIs(fills((2, 2, 2, ()), filling), True)
        self.assertIs(fills((4, 4, 6, ()), (6,) * 16), True)


class Barred(unittest.TestCase):
    def test_each_sort_against_all_fillings(self):
        for place, sort in enumerate(SORTS):
            dice = random.Random(place)
            told = []
            for _ in range(250):
                rows, columns = dice.choice(FLOORS[1:])
                worths = dice.randint(2, most_worths(rows * columns))
                kind = kind_with(rows, columns, worths, some_rule(dice, rows * columns, worths, sort))
                sheet = some_sheet(dice, kind)
                told.append(is_barred(kind, 0, sheet))
                self.assertIs(told[-1], good_in(kind, sheet, (0,)) == [], (kind, sheet))
            # Both answers occur often enough to tell something.
            self.assertTrue(10 < sum(told) < 240, (sort, sum(told)))

    def test_each_sheet_of_a_small_kind(self):
        rules = (("unlike", (0, 1, 2)), ("sum", (0, 2), 4, 4), ("below", 2, 0), ("steps", 0, 1, 2, 2),
                 ("count", (0, 1, 2), (1, 3), 2, 2), ("words", (2, 0), ((1, 3), (2, 2))), ("runs", (0, 1, 2), 2, (1, 1)),
                 ("seen", (2, 0, 1), 2), ("joined", (1, 2)), ("seen", (0, 1), 0), ("sum", (1,), 0, 0))
        kind = kind_with(1, 3, 3, *rules)
        lots = [lot for size in range(4) for lot in itertools.combinations((1, 2, 3), size)]
        for sheet in itertools.product(lots, repeat=3):
            right = [good_in(kind, sheet, (index,)) == [] for index in range(len(rules))]
            self.assertEqual(barred(kind, sheet), right, sheet)

    def test_with_a_void_lot_each_rule_is(self):
        rules = (("unlike", (0, 1)), ("sum", (0,), 0, 99), ("below", 0, 1), ("steps", 0, 1, 0, 99),
                 ("count", (0,), (1,), 0, 99), ("words", (0,), ((1,), (2,))), ("runs", (0,), 1, (1,)), ("seen", (0,), 1),
                 ("joined", (1,)))
        kind = kind_with(2, 2, 2, *rules)
        self.assertEqual(barred(kind, ((1, 2),) * 4), [False] * 9)
        for place in range(4):
            sheet = tuple(() if other == place else (1, 2) for other in range(4))
            self.assertEqual(barred(kind, sheet), [True] * 9)

    def test_unlike_by_matching(self):
        # Of three places together all lots have just two worths, of no two just one.
        kind = kind_with(1, 4, 6, ("unlike", (0, 1, 2, 3)))
        self.assertTrue(is_barred(kind, 0, ((1, 2), (1, 2), (3, 4, 5, 6), (1, 2))))
        self.assertFalse(is_barred(kind, 0, ((1, 2), (1, 2), (3, 4, 5, 6), (1, 2, 6))))
        self.assertFalse(is_barred(kind, 0, ((1, 2), (2, 3), (3, 4), (1, 4))))
        self.assertTrue(is_barred(kind, 0, ((1, 2), (2, 3), (3,), (1, 3))))
        self.assertFalse(is_barred(kind_with(2, 3, 6, ("unlike", (0, 1, 2, 3, 4, 5))), 0, ((1, 2, 3, 4, 5, 6),) * 6))
        self.assertTrue(is_barred(kind_with(2, 4, 6, ("unlike", (0, 1, 2, 3, 4, 5, 6))), 0, ((1, 2, 3, 4, 5, 6),) * 8))

    def test_sums_with_gaps_between(self):
        kind = kind_with(1, 3, 6, ("sum", (0, 1, 2), 9, 12), ("sum", (0, 1, 2), 8, 8), ("sum", (0, 2), 0, 99))
        # Together 3, 8 or 13; then 4, 9 or 14; then 3, 7, 8, 12 or 13.
        self.assertEqual(barred(kind, ((1, 6), (1,), (1, 6))), [True, False, False])
        self.assertEqual(barred(kind, ((1, 6), (2,), (1, 6))), [False, True, False])
        self.assertEqual(barred(kind, ((1, 6), (1,), (1, 5, 6))), [False, False, False])

    def test_sums_of_all_places(self):
        kind = kind_with(4, 4, 6, ("sum", tuple(range(16)), 96, 99), ("sum", tuple(range(16)), 97, 99),
                         ("sum", tuple(range(16)), 0, 16), ("sum", tuple(range(16)), 0, 15))
        self.assertEqual(barred(kind, ((1, 2, 3, 4, 5, 6),) * 16), [False, True, False, True])
        self.assertEqual(barred(kind, ((1, 6),) * 15 + ((2, 5),)), [True, True, True, True])

    def test_counts(self):
        kind = kind_with(4, 4, 6, ("count", tuple(range(16)), (1, 6), 16, 99), ("count", tuple(range(16)), (1, 6), 0, 0),
                         ("count", tuple(range(16)), (1, 6), 3, 3), ("count", tuple(range(16)), (1, 6), 17, 99))
        self.assertEqual(barred(kind, ((1, 2, 3, 4, 5, 6),) * 16), [False, False, False, True])
        self.assertEqual(barred(kind, ((1, 2),) * 15 + ((2, 5),)), [True, False, False, True])
        self.assertEqual(barred(kind, ((1, 2),) * 13 + ((1,), (6,), (1, 6))), [False, True, False, True])
        self.assertEqual(barred(kind, ((1, 6),) * 4 + ((2,),) * 12), [True, True, True, True])

    def test_words(self):
        kind = kind_with(1, 3, 3, ("words", (2, 0), ((1, 2), (3, 1))))
        self.assertFalse(is_barred(kind, 0, ((1, 2), (1, 2, 3), (1, 3))))
        self.assertTrue(is_barred(kind, 0, ((3,), (1, 2, 3), (1, 2, 3))))
        # Each worth of the lots is in some word, but no word has both.
        self.assertTrue(is_barred(kind, 0, ((1,), (1, 2, 3), (1,))))

    def test_runs_along_all_places(self):
        way = tuple(range(16))
        kind = kind_with(4, 4, 2, ("runs", way, 1, (16,)), ("runs", way, 1, ()), ("runs", way, 1, (1,) * 8),
                         ("runs", way, 1, (3, 12)), ("runs", way, 1, (4, 12)), ("runs", way, 2, (7, 8)))
        self.assertEqual(barred(kind, ((1, 2),) * 16), [False, False, False, False, True, False])
        self.assertEqual(barred(kind, ((1,),) + ((1, 2),) * 14 + ((2,),)), [True, True, False, True, True, True])
        self.assertEqual(barred(kind, ((1, 2),) * 7 + ((1,),) + ((1, 2),) * 8), [False, True, False, False, True, False])
        self.assertEqual(barred(kind, ((1,), (2,)) * 8), [True, True, False, True, True, True])

    def test_seen_along_all_places(self):
        way = tuple(range(16))
        kind = kind_with(4, 4, 6, *[("seen", way, many) for many in (0, 1, 5, 6, 7, 8, 14, 15, 16)])
        whole = ((1, 2, 3, 4, 5, 6),) * 16
        self.assertEqual(barred(kind, whole), [True, False, False, False, True, True, True, True, True])
        self.assertEqual(barred(kind, ((2, 6),) + whole[1:])[:5], [True, False, False, True, True])
        self.assertEqual(barred(kind, ((6,),) + whole[1:])[:5], [True, False, True, True, True])
        self.assertEqual(barred(kind, ((1,), (2,), (3,), (4,), (5,), (6,)) + whole[6:])[:5], [True, True, True, False, True])

    def test_joined_by_one_piece_of_open_places(self):
        kind = kind_with(3, 3, 2, ("joined", (2,)))
        ring = ((2,), (1, 2), (2,), (1, 2), (1,), (1, 2), (2,), (1, 2), (2,))
        self.assertFalse(is_barred(kind, 0, ring))
        # The ring may be open at one place, not at two.
        self.assertFalse(is_barred(kind, 0, ring[:1] + ((1,),) + ring[2:]))
        self.assertTrue(is_barred(kind, 0, ring[:1] + ((1,),) + ring[2:7] + ((1,),) + ring[8:]))
        self.assertFalse(is_barred(kind, 0, ((1,),) * 9))
        self.assertFalse(is_barred(kind, 0, ((1, 2),) * 9))
        # Open places beside may have worths of the lot without hanging together: they need not.
        self.assertFalse(is_barred(kind, 0, ((2,), (1,), (1, 2), (1,), (1,), (1,), (1, 2), (1,), (1, 2))))
        long = kind_with(4, 4, 3, ("joined", (1, 3)))
        self.assertFalse(is_barred(long, 0, ((3,),) + ((1, 2),) * 14 + ((1, 3),)))
        self.assertTrue(is_barred(long, 0, ((3,),) + ((1, 2),) * 3 + ((2,),) * 4 + ((1, 2),) * 7 + ((1, 3),)))
        self.assertTrue(is_barred(long, 0, ((2,), (2,), (2,), (3,), (1,)) + ((2,),) * 11))

    def test_a_settled_sheet_bars_exactly_what_does_not_hold(self):
        for dice, kind, sheet in tries(2, 200):
            filling = tuple(dice.randint(1, kind[2]) for _ in sheet)
            right = [not holds_plainly(kind, rule, filling) for rule in kind[3]]
            self.assertEqual(barred(kind, tuple((worth,) for worth in filling)), right)

    def test_12_rules(self):
        kind = kind_with(1, 1, 2, *[("sum", (0,), low, low) for low in range(12)])
        self.assertEqual(barred(kind, ((1, 2),)), [True, False, False] + [True] * 9)
        self.assertEqual([holds(kind, index, (2,)) for index in range(12)], [False, False, True] + [False] * 9)


if __name__ == "__main__":
    unittest.main()
