"""Lots as numbers, which the search goes by."""
import itertools
import unittest

from onefilling.bits import BITS_IN, bits_of, lowest_worth, parts_of, sheet_bits, span_bits


class Bits(unittest.TestCase):
    def test_each_lot(self):
        lots = [lot for size in range(7) for lot in itertools.combinations(range(1, 7), size)]
        self.assertEqual(sorted(bits_of(lot) for lot in lots), list(range(64)))
        self.assertEqual(len(BITS_IN), 64)
        for lot in lots:
            bits = bits_of(lot)
            self.assertEqual(BITS_IN[bits], len(lot))
            self.assertEqual(parts_of(bits), [bits_of((worth,)) for worth in lot])
            if lot:
                self.assertEqual(lowest_worth(bits), lot[0])
        self.assertEqual(sheet_bits(((), (1,), (6,), (1, 3))), [0, 1, 32, 5])

    def test_spans(self):
        for low in range(20):
            for high in range(low, 20):
                self.assertEqual(span_bits(low, high), sum(2 ** bit for bit in range(low, high + 1)))


if __name__ == "__main__":
    unittest.main()
