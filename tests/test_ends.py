"""Ends: closed sheets, ends for lots and for numbers, covers, rounds, lots that are needed: [16] to [20]."""
import itertools
import random
import unittest

from helper import (STRANGE, Listed, all_in, all_lots, is_cover_plainly, is_inside, latin, led_plainly, listed,
                    lots_for, pairs_kind, some_givens, some_rule, strikes_in, tries, without_worth)

from onefilling.ends import (cover_for, covers_for, depths, end, end_by, end_for, is_closed, is_cover, left_by,
                             needed_lots, row_to_end)
from onefilling.kinds import begin, is_within, whole_sheet
from onefilling.reasons import led, strikes_for

ALIKE = (1, 2, 2, (("steps", 0, 1, 0, 0), ("sum", (0, 1), 2, 3)))
BOTH = ((1, 2), (1, 2))
SQUARE = (2, 2, 2, (("unlike", (0, 1)), ("unlike", (0, 2)), ("unlike", (1, 3)), ("unlike", (2, 3))))
FREE = (2, 2, 2, ())
FILLED = (1, 2, 3, 4, 3, 4, 1, 2, 2, 1, 4, 3, 4, 3, 2, 1)
# Twelve neighbours in a ring, eleven times unlike, once alike: with two worths only all together exclude.
BORDER = (0, 1, 2, 3, 7, 11, 15, 14, 13, 12, 8, 4)
ODD = (4, 4, 2, tuple(("steps", BORDER[at], BORDER[(at + 1) % 12], 1 if at else 0, 1 if at else 0)
                      for at in range(12)))


def numbers_for(kind):
    """All numbers of rules, and some above."""
    return list(range(len(kind[3]) + 2)) + [12]


def some_lots(dice, kind, most):
    lots = all_lots(len(kind[3]))
    return tuple(sorted(dice.sample(lots, dice.randint(0, min(most, len(lots))))))


class Ends(unittest.TestCase):
    def test_against_all_fillings_for_each_number(self):
        moved = 0
        for dice, kind, sheet, right in listed(41, 150):
            for most in numbers_for(kind):
                left, many = right.end(sheet, lots_for(kind, most))
                self.assertEqual(end(kind, sheet, most), left, (kind, sheet, most))
                moved += left != sheet
        self.assertGreater(moved, 200)

    def test_against_all_fillings_for_lots(self):
        moved = 0
        for dice, kind, sheet, right in listed(42, 250):
            lots = some_lots(dice, kind, 5)
            left, many = right.end(sheet, lots)
            self.assertEqual(end_for(kind, sheet, lots), left, (kind, sheet, lots))
            moved += left != sheet
        self.assertGreater(moved, 80)

    def test_one_end_for_all_orders_by_as_many_strikes(self):
        moved = 0
        for dice, kind, sheet, right in listed(43, 60):
            for most in numbers_for(kind):
                left, many = right.end(sheet, lots_for(kind, most))
                moved += many > 2
                for _ in range(3):
                    self.assertEqual(right.end(sheet, lots_for(kind, most), dice.choice), (left, many))
                    order = tuple(dice.randrange(50) for _ in range(dice.randint(0, 30)))
                    strikes, told = end_by(kind, sheet, most, order)
                    self.assertEqual((told, len(strikes)), (left, many), (kind, sheet, most, order))
        self.assertGreater(moved, 50)

    def test_all_lots_of_up_to_so_many_rules_have_the_same_end(self):
        for dice, kind, sheet in tries(44, 60):
            for most in range(len(kind[3]) + 1):
                lots = tuple(sorted(lot for lot in all_lots(len(kind[3])) if len(lot) <= most))
                self.assertEqual(end_for(kind, sheet, lots), end(kind, sheet, most))
                self.assertEqual(end_for(kind, sheet, tuple(lots_for(kind, most))), end(kind, sheet, most))

    def test_the_end_is_the_greatest_closed_sheet_within(self):
        for kind in (ALIKE, ALIKE[:3] + (ALIKE[3][::-1],), (1, 2, 3, (("below", 0, 1), ("sum", (0, 1), 4, 5)))):
            lots = [lot for size in range(kind[2] + 1) for lot in itertools.combinations(range(1, kind[2] + 1), size)]
            for most in (0, 1, 2):
                closed = [sheet for sheet in itertools.product(lots, repeat=2) if is_closed(kind, sheet, most)]
                for sheet in itertools.product(lots, repeat=2):
                    left = end(kind, sheet, most)
                    self.assertIn(left, closed)
                    self.assertTrue(is_within(kind, left, sheet))
                    for other in closed:
                        if is_within(kind, other, sheet):
                            self.assertTrue(is_within(kind, other, left))

    def test_for_greater_numbers_it_lies_within(self):
        for dice, kind, sheet in tries(45, 80):
            ends = [end(kind, sheet, most) for most in numbers_for(kind)]
            for less, more in itertools.combinations(range(len(ends)), 2):
                self.assertTrue(is_within(kind, ends[more], ends[less]))
                self.assertEqual(end(kind, ends[less], numbers_for(kind)[more]), ends[more])
            self.assertEqual(ends[-1], ends[-3])

    def test_for_all_rules_just_the_worths_of_the_fillings_are_left(self):
        for dice, kind, sheet, right in listed(46, 100):
            good = [filling for filling, met in right.told if len(met) == len(kind[3])]
            left = tuple(tuple(sorted({filling[place] for filling in good})) for place in range(len(sheet)))
            for most in (len(kind[3]), 12):
                self.assertEqual(end(kind, sheet, most), sheet if kind[3] == () and () not in sheet else left)

    def test_within_another_sheet_and_with_more_rules_it_lies_within(self):
        for dice, kind, sheet in tries(47, 80):
            inner = tuple(tuple(worth for worth in lot if dice.random() < .8) for lot in sheet)
            more = kind[:3] + (kind[3] + (some_rule(dice, len(sheet), kind[2], dice.choice(("sum", "count", "joined"))),),)
            for most in (0, 1, 2, 12):
                self.assertTrue(is_within(kind, end(kind, inner, most), end(kind, sheet, most)))
                self.assertTrue(is_within(kind, end(more, sheet, most), end(kind, sheet, most)))

    def test_void_lots(self):
        nothing = ((), (), (), ())
        for kind in (SQUARE, FREE):
            for sheet in (((), (1, 2), (1,), (2,)), ((1, 2), (1,), (2,), ()), nothing):
                for most in (0, 1, 2, 12):
                    self.assertEqual(end(kind, sheet, most), nothing)
                self.assertEqual(end_for(kind, sheet, ((),)), nothing)
                self.assertEqual(end_for(kind, sheet, ()), sheet)
        self.assertEqual(end_for(SQUARE, ((), (1, 2), (1,), (2,)), ((3,),)), nothing)

    def test_no_rules_and_settled_sheets(self):
        self.assertEqual(end(FREE, ((1,), (1, 2), (1,), (2,)), 12), ((1,), (1, 2), (1,), (2,)))
        self.assertEqual(end((1, 1, 2, ()), ((1, 2),), 0), ((1, 2),))
        self.assertEqual(end(SQUARE, ((1,), (2,), (2,), (1,)), 12), ((1,), (2,), (2,), (1,)))
        self.assertEqual(end(SQUARE, ((1,), (2,), (2,), (2,)), 0), ((1,), (2,), (2,), (2,)))
        self.assertEqual(end(SQUARE, ((1,), (2,), (2,), (2,)), 1), ((), (), (), ()))
        self.assertEqual(end_for(SQUARE, ((1,), (2,), (2,), (2,)), ((0,), (0, 1))), ((1,), (2,), (2,), (2,)))

    def test_lots_of_all_sizes_beside_one_another(self):
        self.assertEqual(end_for(ALIKE, BOTH, ((), (0,), (0, 1), (1,))), ((1,), (1,)))
        self.assertEqual(end_for(ALIKE, BOTH, ((), (0,), (1,))), BOTH)
        self.assertEqual(end_for(ODD, whole_sheet(ODD), tuple(sorted(itertools.combinations(range(12), 5)))),
                         whole_sheet(ODD))
        self.assertEqual(end_for(ODD, whole_sheet(ODD), (tuple(range(12)),)), ((),) * 16)

    def test_large_kinds(self):
        dice = random.Random(48)
        for many in (4, 5, 6):
            sheet = begin((latin(4, 4), some_givens(dice, FILLED, many)))
            left = end(latin(4, 4), sheet, 12)
            self.assertTrue(is_inside(FILLED, left))
            for most in range(9):
                self.assertTrue(is_within(latin(4, 4), left, end(latin(4, 4), sheet, most)))
        self.assertEqual([end(ODD, whole_sheet(ODD), most) == whole_sheet(ODD) for most in range(13)],
                         [True] * 12 + [False])


class Orders(unittest.TestCase):
    def test_the_strike_with_the_index_that_the_order_tells(self):
        for dice, kind, sheet, right in listed(51, 80):
            for most in (0, 1, 2, 12):
                order = tuple(dice.choice((0, 1, 2, 5, 97, 10 ** 399 + 1)) for _ in range(dice.randint(0, 8)))
                left, made = sheet, []
                ready = right.ready(left, lots_for(kind, most))
                while ready:
                    at = order[len(made)] % len(ready) if len(made) < len(order) else 0
                    made.append(ready[at])
                    left = without_worth(left, *ready[at])
                    ready = right.ready(left, lots_for(kind, most))
                self.assertEqual(end_by(kind, sheet, most, order), (tuple(made), left), (kind, sheet, most, order))

    def test_by_hand(self):
        self.assertEqual(end_by(ALIKE, BOTH, 2, (1,)), (((1, 2), (0, 2)), ((1,), (1,))))
        self.assertEqual(end_by(ALIKE, BOTH, 1, (1,)), ((), BOTH))
        # Longer than the strikes, and just so long.
        self.assertEqual(end_by(ALIKE, BOTH, 2, (7,) * 100), (((1, 2), (0, 2)), ((1,), (1,))))
        self.assertEqual(end_by(ALIKE, BOTH, 2, (0, 0)), (((0, 2), (1, 2)), ((1,), (1,))))
        self.assertEqual(end_by(ALIKE, ((), (1, 2)), 0, (1,)), (((1, 2), (1, 1)), ((), ())))
        self.assertEqual(end_by(ALIKE, ((), ()), 12, (3,)), ((), ((), ())))

    def test_all_strikes_of_a_sheet_of_96(self):
        kind = (4, 4, 6, (("sum", (0,), 0, 0),))
        strikes, left = end_by(kind, whole_sheet(kind), 1, ())
        self.assertEqual((strikes, left), (tuple(strikes_in(whole_sheet(kind))), ((),) * 16))
        strikes, left = end_by(kind, whole_sheet(kind), 1, (10 ** 9 + 95,) * 100)
        self.assertEqual((sorted(strikes), left), (strikes_in(whole_sheet(kind)), ((),) * 16))


class Rows(unittest.TestCase):
    def test_rows_lead_to_the_end(self):
        many = 0
        for dice, kind, sheet, right in listed(52, 120):
            for most in numbers_for(kind):
                row = row_to_end(kind, sheet, most)
                self.assertEqual(led_plainly(self, kind, sheet, row, most), end(kind, sheet, most), (kind, sheet, most))
                self.assertEqual(led(kind, sheet, row), end(kind, sheet, most))
                many += len(row)
        self.assertGreater(many, 500)

    def test_large_kinds(self):
        sheet = begin((latin(4, 4), some_givens(random.Random(53), FILLED, 5)))
        for most in (0, 1, 2, 3, 12):
            row = row_to_end(latin(4, 4), sheet, most)
            self.assertTrue(all(len(reason[0]) <= most for reason in row))
            self.assertEqual(led(latin(4, 4), sheet, row), end(latin(4, 4), sheet, most))
        self.assertEqual(led(ODD, whole_sheet(ODD), row_to_end(ODD, whole_sheet(ODD), 12)), ((),) * 16)
        self.assertEqual(row_to_end(ODD, whole_sheet(ODD), 3), ())


class Rounds(unittest.TestCase):
    def test_against_all_fillings(self):
        deepest = 0
        for dice, kind, sheet, right in listed(54, 400):
            for most in numbers_for(kind):
                left, depth, told = sheet, 1, []
                ready = right.ready(left, lots_for(kind, most))
                while ready:
                    for place, worth in ready:
                        told.append((place, worth, depth))
                        left = without_worth(left, place, worth)
                    depth += 1
                    ready = right.ready(left, lots_for(kind, most))
                self.assertEqual(depths(kind, sheet, most), tuple(sorted(told)), (kind, sheet, most))
                self.assertEqual(left, end(kind, sheet, most))
                deepest = max(deepest, depth - 1)
        self.assertGreater(deepest, 2)

    def test_strikes_behind_others_that_several_rules_tell(self):
        dice = random.Random(62)
        deep = 0
        for _ in range(500):
            kind = pairs_kind(dice)
            sheet = end(kind, whole_sheet(kind), 1)
            for most in (2, 3):
                told = depths(kind, sheet, most)
                # Strikes of one round alone are tried enough by other kinds.
                if max([depth for place, worth, depth in told], default=0) > 1:
                    deep += 1
                    self.same_ends(dice, kind, sheet, most, told)
        self.assertGreater(deep, 20)

    def same_ends(self, dice, kind, sheet, most, told):
        """The end, whichever way one comes to it, is that of all fillings, one by one."""
        right = Listed(kind, sheet)
        lots = lots_for(kind, most)
        left, many = right.end(sheet, lots)
        self.assertEqual(right.ready(sheet, lots), [(place, worth) for place, worth, depth in told if depth == 1])
        self.assertEqual(len(told), many)
        self.assertEqual(end(kind, sheet, most), left)
        self.assertEqual(end_for(kind, sheet, tuple(lots)), left)
        strikes, last = end_by(kind, sheet, most, tuple(dice.randrange(99) for _ in range(many)))
        self.assertEqual((last, len(strikes)), (left, many))
        self.assertEqual(led_plainly(self, kind, sheet, row_to_end(kind, sheet, most), most), left)
        self.assertEqual(left_by(kind, sheet)[most], sum(map(len, left)))
        needed = tuple(lot for lot in lots if right.end(sheet, [other for other in lots if other != lot])[0] != left)
        self.assertEqual(needed_lots(kind, sheet, tuple(lots)), needed)

    def test_in_rounds_of_some_strikes_none_is_made_earlier(self):
        for dice, kind, sheet in tries(55, 60):
            for most in (1, 2):
                told = {(place, worth): depth for place, worth, depth in depths(kind, sheet, most)}
                left, number = sheet, 1
                ready = strikes_for(kind, left, most)
                while ready:
                    for strike in dice.sample(ready, dice.randint(1, len(ready))):
                        self.assertLessEqual(told[strike], number)
                        left = without_worth(left, *strike)
                    number += 1
                    ready = strikes_for(kind, left, most)
                self.assertEqual(left, end(kind, sheet, most))

    def test_by_hand(self):
        # A chain: each place is below the next one.
        chain = (1, 4, 4, (("below", 0, 1), ("below", 1, 2), ("below", 2, 3)))
        told = depths(chain, whole_sheet(chain), 1)
        self.assertEqual(told, ((0, 2, 3), (0, 3, 2), (0, 4, 1), (1, 1, 1), (1, 3, 2), (1, 4, 1), (2, 1, 1), (2, 2, 2),
                                (2, 4, 1), (3, 1, 1), (3, 2, 2), (3, 3, 3)))
        self.assertEqual({depth for place, worth, depth in depths(chain, whole_sheet(chain), 3)}, {1})
        self.assertEqual(depths(chain, whole_sheet(chain), 0), ())
        self.assertEqual(depths(ALIKE, ((), (1, 2)), 0), ((1, 1, 1), (1, 2, 1)))
        self.assertEqual(depths(ALIKE, ((), ()), 2), ())


class Left(unittest.TestCase):
    def test_against_all_fillings(self):
        for dice, kind, sheet, right in listed(56, 120):
            told = tuple(sum(map(len, right.end(sheet, lots_for(kind, most))[0])) for most in range(len(kind[3]) + 1))
            self.assertEqual(left_by(kind, sheet), told, (kind, sheet))

    def test_as_many_as_numbers_of_rules(self):
        self.assertEqual(left_by(FREE, whole_sheet(FREE)), (8,))
        self.assertEqual(left_by(FREE, ((), (1,), (2,), (1, 2))), (0,))
        self.assertEqual(left_by(ODD, whole_sheet(ODD)), (32,) * 12 + (0,))


class Needed(unittest.TestCase):
    def test_against_all_fillings(self):
        told = [0, 0]
        for dice, kind, sheet, right in listed(57, 250):
            lots = some_lots(dice, kind, 5)
            whole = right.end(sheet, lots)[0]
            needed = tuple(lot for lot in lots if right.end(sheet, [other for other in lots if other != lot])[0] != whole)
            self.assertEqual(needed_lots(kind, sheet, lots), needed, (kind, sheet, lots))
            told[0] += len(lots) - len(needed)
            told[1] += len(needed)
        self.assertTrue(min(told) > 50, told)

    def test_by_hand(self):
        twice = ALIKE[:3] + (ALIKE[3] + ALIKE[3][1:],)
        # Either sum will do, so neither is needed; without both the end is another one.
        self.assertEqual(needed_lots(twice, ((2,), (1, 2)), ((1,), (2,))), ())
        self.assertEqual(needed_lots(twice, ((2,), (1, 2)), ((1,),)), ((1,),))
        self.assertNotEqual(end_for(twice, ((2,), (1, 2)), ()), end_for(twice, ((2,), (1, 2)), ((1,), (2,))))
        # Within another one a lot is not needed.
        self.assertEqual(needed_lots(twice, ((2,), (1, 2)), ((1,), (1, 2))), ())
        self.assertEqual(needed_lots(ALIKE, ((1, 2), ()), ((0,),)), ((0,),))
        self.assertEqual(needed_lots(ALIKE, ((1, 2), ()), ((),)), ((),))
        self.assertEqual(needed_lots(ALIKE, ((1, 2), ()), ((), (0,))), ())
        self.assertEqual(needed_lots(ALIKE, ((), ()), ((), (0,))), ())
        self.assertEqual(needed_lots(ALIKE, BOTH, ()), ())

    def test_1000_lots(self):
        kind = latin(4, 4)[:3] + (latin(4, 4)[3] + tuple(("unlike", (place, place + 5)) for place in (0, 1, 4, 5)),)
        lots = tuple(sorted(itertools.islice(itertools.combinations(range(12), 6), 924)))
        lots = tuple(sorted(set(lots) | set(itertools.islice(itertools.combinations(range(12), 3), 76))))
        self.assertEqual(len(lots), 1000)
        sheet = begin((kind, ((0, 1), (6, 3))))
        self.assertEqual(end_for(kind, sheet, lots), end(kind, sheet, 6))
        self.assertFalse(any(len(lot) == 3 for lot in needed_lots(kind, sheet, lots)))


class Closed(unittest.TestCase):
    def test_against_all_fillings(self):
        told = [0, 0]
        for dice, kind, sheet, right in listed(58, 200):
            for most in numbers_for(kind):
                one = is_closed(kind, sheet, most)
                self.assertIs(one, not right.ready(sheet, lots_for(kind, most)), (kind, sheet, most))
                self.assertIs(is_closed(kind, end(kind, sheet, most), most), True)
                told[one] += 1
        self.assertTrue(min(told) > 100, told)

    def test_void_and_settled(self):
        self.assertIs(is_closed(SQUARE, ((), (), (), ()), 12), True)
        self.assertIs(is_closed(SQUARE, ((), (1,), (), ()), 0), False)
        self.assertIs(is_closed(FREE, ((), (1,), (), ()), 12), False)
        self.assertIs(is_closed(SQUARE, ((1,), (2,), (2,), (1,)), 12), True)
        self.assertIs(is_closed(SQUARE, ((1,), (2,), (2,), (2,)), 0), True)
        self.assertIs(is_closed(SQUARE, ((1,), (2,), (2,), (2,)), 1), False)


class Covers(unittest.TestCase):
    def test_against_all_fillings(self):
        told = [0, 0]
        for dice, kind, sheet, right in listed(59, 200):
            for lot in all_lots(len(kind[3])):
                cover = cover_for(kind, sheet, lot)
                told[cover is not None] += 1
                if right.ready(sheet, [lot]):
                    self.assertIsNone(cover)
                else:
                    self.assertTrue(is_cover_plainly(kind, sheet, lot, cover), (kind, sheet, lot, cover))
                    self.assertIs(is_cover(kind, sheet, lot, cover), True)
        self.assertTrue(min(told) > 300, told)

    def test_closed_exactly_if_there_are_covers(self):
        told = [0, 0]
        for dice, kind, sheet, right in listed(60, 150):
            for most in numbers_for(kind):
                for some in (sheet, end(kind, sheet, most)):
                    covers = covers_for(kind, some, most)
                    told[covers is not None] += 1
                    self.assertIs(covers is not None, is_closed(kind, some, most))
                    if covers is not None:
                        lots = lots_for(kind, most)
                        self.assertEqual((type(covers), len(covers)), (tuple, len(lots)))
                        for lot, cover in zip(lots, covers):
                            self.assertTrue(is_cover_plainly(kind, some, lot, cover), (kind, some, lot, cover))
        self.assertTrue(min(told) > 100, told)

    def test_up_to_96_fillings(self):
        kind = (4, 4, 6, ())
        cover = cover_for(kind, whole_sheet(kind), ())
        self.assertTrue(is_cover_plainly(kind, whole_sheet(kind), (), cover))
        six = tuple((worth,) * 16 for worth in range(1, 7))
        for value, right in ((six, True), (six[1:], False), (six[::-1], True), (six * 16, True), (six * 16 + six[:1], False),
                             (six + six[:3], True), (six[:5] + ((6,) * 15 + (5,),), False), ((), False)):
            self.assertIs(is_cover(kind, whole_sheet(kind), (), value), right)

    def test_covers_for_as_many_lots_as_there_are(self):
        covers = covers_for(ODD, whole_sheet(ODD), 6)
        self.assertEqual(len(covers), 924)
        for lot, cover in zip(itertools.combinations(range(12), 6), covers):
            self.assertTrue(is_cover(ODD, whole_sheet(ODD), lot, cover))
        self.assertIsNone(covers_for(ODD, whole_sheet(ODD), 12))

    def test_void_lots(self):
        nothing = ((), (), (), ())
        for lot in ((), (0,), (0, 1, 2, 3)):
            self.assertEqual(cover_for(SQUARE, nothing, lot), ())
            self.assertIs(is_cover(SQUARE, nothing, lot, ()), True)
            self.assertIs(is_cover(SQUARE, nothing, lot, ((1, 2, 2, 1),)), False)
            self.assertIsNone(cover_for(SQUARE, ((1,), (2,), (2,), ()), lot))
            self.assertIs(is_cover(SQUARE, ((1,), (2,), (2,), ()), lot, ()), False)
            self.assertIs(is_cover(SQUARE, ((1,), (2,), (2,), ()), lot, ((1, 2, 2, 1),)), False)
        self.assertEqual(covers_for(SQUARE, nothing, 1), ((), (), (), ()))
        self.assertIsNone(covers_for(SQUARE, ((1,), (2,), (2,), ()), 0))

    def test_what_is_a_cover(self):
        for value, right in (
            (((1, 1), (2, 2)), True), (((2, 2), (1, 1)), True), (((1, 1), (2, 2), (1, 1)), True), (((1, 1),), False),
            (((1, 1), (2, 2), (1, 2)), False), ([(1, 1), (2, 2)], False), (((1, 1), [2, 2]), False), ((), False),
            (((1, 1), (2, 2, 2)), False), (((True, True), (2, 2)), False), (((1, 1), (2, 2), (3, 3)), False),
            (((1, 1), (2, 2), ()), False), (((1, 1), (2, 2), None), False), ((1, 1), False), (((1, 1), (2,)), False),
        ):
            self.assertIs(is_cover(ALIKE, BOTH, (0,), value), right, value)
            self.assertIs(is_cover_plainly(ALIKE, BOTH, (0,), value), right, value)
        # Each filling has to lie in the sheet.
        self.assertIs(is_cover(ALIKE, ((1,), (1,)), (0,), ((1, 1), (2, 2))), False)
        self.assertIs(is_cover(ALIKE, ((1,), (1,)), (0,), ((1, 1),)), True)

    def test_any_value(self):
        for value in STRANGE:
            self.assertIs(is_cover(ALIKE, BOTH, (0,), value), False)
            for cover in ((value,), ((1, 1), value), ((1, 1), (2, value)), ((1, 1), (2, 2), value)):
                self.assertIs(is_cover(ALIKE, BOTH, (0,), cover), is_cover_plainly(ALIKE, BOTH, (0,), cover), cover)

    def test_covers_that_are_changed(self):
        told = [0, 0]
        for dice, kind, sheet, right in listed(61, 300, 0):
            lot = dice.choice(all_lots(len(kind[3])))
            cover = cover_for(kind, sheet, lot)
            for _ in range(4 if cover else 0):
                at = dice.randrange(len(cover))
                other = dice.choice((dice.choice(all_in(sheet)), tuple(dice.randint(1, kind[2]) for _ in sheet)))
                value = dice.choice((cover[:at] + cover[at + 1:], cover[:at] + (other,) + cover[at:], cover[::-1]))
                one = is_cover(kind, sheet, lot, value)
                self.assertIs(one, is_cover_plainly(kind, sheet, lot, value), (kind, sheet, lot, value))
                told[one] += 1
        self.assertTrue(min(told) > 100, told)


if __name__ == "__main__":
    unittest.main()
