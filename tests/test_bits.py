"""Lots as numbers, which the search goes by, and families of lots of rules."""
import itertools
import unittest

from helper import all_lots

from onefilling.bits import (BITS_IN, bits_of, lowest_at, lowest_worth, parts_of, sheet_bits, sheet_of, span_bits,
                             worth_bit, worths_in)
from onefilling.families import Family, family_for, family_of, lot_of, lots_up_to, rules_of


class Bits(unittest.TestCase):
    def test_each_lot(self):
        lots = [lot for size in range(7) for lot in itertools.combinations(range(1, 7), size)]
        self.assertEqual(sorted(bits_of(lot) for lot in lots), list(range(64)))
        self.assertEqual(len(BITS_IN), 64)
        for lot in lots:
            bits = bits_of(lot)
            self.assertEqual(BITS_IN[bits], len(lot))
            self.assertEqual(parts_of(bits), [bits_of((worth,)) for worth in lot])
            self.assertEqual(worths_in(bits), lot)
            if lot:
                self.assertEqual((lowest_worth(bits), lowest_at(bits), worth_bit(lot[0])),
                                 (lot[0], lot[0] - 1, bits_of(lot[:1])))
        self.assertEqual(sheet_bits(((), (1,), (6,), (1, 3))), [0, 1, 32, 5])
        self.assertEqual(sheet_of([0, 1, 32, 5]), ((), (1,), (6,), (1, 3)))

    def test_spans(self):
        for low in range(20):
            for high in range(low, 20):
                self.assertEqual(span_bits(low, high), sum(2 ** bit for bit in range(low, high + 1)))


class Families(unittest.TestCase):
    def test_lots_and_numbers(self):
        lots = all_lots(5)
        self.assertEqual(sorted(rules_of(lot) for lot in lots), list(range(32)))
        for lot in lots:
            self.assertEqual(lot_of(rules_of(lot)), lot)

    def test_within_and_holder(self):
        lots = [(), (0, 2), (1,), (1, 2, 4)]
        family = Family(lots)
        for some in all_lots(5):
            inside = [set(lot) <= set(some) for lot in lots]
            self.assertEqual(family.within(rules_of(some)), sum(1 << at for at in range(4) if inside[at]))
            having = [lot for lot in lots if set(some) <= set(lot)]
            self.assertEqual(family.holder(rules_of(some)), having[0] if having else None)
        self.assertEqual((family.everyone, family.rules, Family([]).everyone, Family([]).rules), (15, 23, 0, 0))

    def test_the_greatest_lots_alone(self):
        lots = ((), (0,), (0, 1), (0, 1, 3), (0, 2), (1, 3), (2,), (3, 4))
        self.assertEqual(family_of(lots).lots, [(0, 1, 3), (0, 2), (3, 4)])
        self.assertEqual((family_of(((),)).lots, family_of(()).lots), ([()], []))

    def test_all_lots_of_so_many_rules(self):
        kind = (1, 1, 2, (("sum", (0,), 1, 2),) * 4)
        for most, size in ((0, 0), (1, 1), (3, 3), (4, 4), (5, 4), (12, 4)):
            self.assertEqual(family_for(kind, most).lots, list(itertools.combinations(range(4), size)))
            self.assertEqual(lots_up_to(kind, most), [lot for lot in all_lots(4) if len(lot) <= most])


if __name__ == "__main__":
    unittest.main()
