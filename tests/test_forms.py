"""What is a rule, a kind, a puzzle, a sheet, a filling: [3], [5] to [8], [11]."""
import unittest

from helper import SORTS, STRANGE, nested

from onefilling.kinds import is_filling, is_kind, is_puzzle, is_rule, is_sheet

SQUARE = (2, 2, 2, (("unlike", (0, 1)), ("unlike", (0, 2))))
ONE = (1, 1, 2, ())
LARGE = (4, 4, 6, (("sum", tuple(range(16)), 0, 99),) * 12)

# For each sort of rules one rule for 4 places and 3 worths.
RULES = {
    "unlike": ("unlike", (0, 1, 3)),
    "sum": ("sum", (0, 2), 2, 5),
    "below": ("below", 3, 0),
    "steps": ("steps", 0, 3, 1, 2),
    "count": ("count", (1, 2), (1, 3), 0, 1),
    "words": ("words", (3, 0), ((1, 2), (1, 3), (3, 1))),
    "runs": ("runs", (2, 1, 0), 3, (1, 1)),
    "seen": ("seen", (3, 1), 2),
    "joined": ("joined", (1, 3)),
}

GOOD = {
    "unlike": ["(0, 1)", "(2, 3)", "(0, 1, 2, 3)"],
    "sum": ["(0,), 0, 0", "(3,), 99, 99", "(0, 1, 2, 3), 0, 99", "(1,), 5, 5"],
    "below": ["0, 1", "1, 0", "0, 3", "3, 0"],
    "steps": ["0, 1, 0, 0", "3, 0, 0, 99", "2, 1, 99, 99", "1, 2, 7, 8"],
    "count": ["(0,), (1,), 0, 0", "(0, 1, 2, 3), (1, 2, 3), 99, 99", "(2,), (3,), 0, 99", "(0, 3), (1, 3), 4, 4"],
    "words": ["(0,), ((1,),)", "(3,), ((1,), (2,), (3,))", "(3, 2, 1, 0), ((1, 1, 1, 1),)", "(0, 1), ((1, 3), (2, 1))"],
    "runs": ["(0,), 1, ()", "(3,), 3, (16,)", "(3, 1, 0, 2), 2, (1, 1, 1, 1, 1, 1, 1, 1)", "(0, 1), 1, (16, 1, 16)"],
    "seen": ["(0,), 0", "(3,), 16", "(2, 0, 3, 1), 3"],
    "joined": ["(1,)", "(3,)", "(1, 2, 3)", "(2, 3)"],
}

BAD = {
    "unlike": ["()", "(0,)", "(1, 0)", "(0, 0)", "(0, 4)", "(-1, 0)", "[0, 1]", "(0, True)", "(False, 1)", "0, 1",
               "(0, 1), 1", "", "None", "(0, 1, None)", "((0, 1),)", "(0, '1')", "'01'", "{0, 1}", "(0, 1, 1)",
               "(0, 1, 10 ** 399)"],
    "sum": ["(), 0, 1", "(1, 0), 0, 1", "(0, 0), 0, 1", "(4,), 0, 1", "(-1,), 0, 1", "[0], 0, 1", "0, 0, 1",
            "(0,), 1, 0", "(0,), -1, 0", "(0,), 0, 100", "(0,), 99, 98", "(0,), False, 1", "(0,), 0, True", "(0,), 1",
            "(0,), 0, 1, 1", "(0,), None, 1", "(0,), 0, None", "(0,), (0, 1)", "(True,), 0, 1", "(0,), '0', '1'",
            "(0,), 100, 100"],
    "below": ["0, 0", "0, 4", "4, 0", "-1, 0", "0, -1", "0", "0, 1, 2", "(0, 1)", "False, 1", "0, True", "None, 1",
              "'0', 1", "(0,), (1,)", "0, 10 ** 399"],
    "steps": ["0, 0, 0, 1", "0, 4, 0, 1", "4, 0, 0, 1", "0, 1, 1, 0", "0, 1, -1, 0", "0, 1, 0, 100", "0, 1, 0",
              "0, 1, 0, 1, 1", "0, True, 0, 1", "False, 1, 0, 1", "0, 1, False, 1", "0, 1, 0, True", "(0, 1), 0, 1",
              "0, 1, (0, 1)", "0, 1, None, 1"],
    "count": ["(), (1,), 0, 1", "(0,), (), 0, 1", "(0,), (0,), 0, 1", "(0,), (4,), 0, 1", "(0,), (2, 1), 0, 1",
              "(0,), (1, 1), 0, 1", "(0,), [1], 0, 1", "[0], (1,), 0, 1", "(1, 0), (1,), 0, 1", "(0,), (True,), 0, 1",
              "(0,), 1, 0, 1", "(0,), (1,), 1, 0", "(0,), (1,), 0, 100", "(0,), (1,), -1, 0", "(0,), (1,), 0",
              "(0,), (1,), 0, 1, 1", "(0,), (1,), False, 1", "(4,), (1,), 0, 1", "(0,), None, 0, 1"],
    "words": ["(), ((),)", "(), ()", "(0,), ()", "(0,), ((),)", "(0,), ((2,), (1,))", "(0,), ((1,), (1,))",
              "(0,), ((4,),)", "(0,), ((0,),)", "(0, 1), ((1,),)", "(0,), ((1, 1),)", "(0, 0), ((1, 1),)",
              "(4,), ((1,),)", "(0,), ([1],)", "(0,), [(1,)]", "[0], ((1,),)", "(0,), ((True,),)", "(0,), (1,)",
              "(0,), ((1,),), 1", "(0,)", "(0,), ((1,), 2)", "(0,), ((1,), None)", "(0,), (None, (1,))",
              "(0,), ('1',)", "(True,), ((1,),)", "(0, 1), ((2, 1), (1, 2))", "(0,), ((1,), ('2',))"],
    "runs": ["(), 1, ()", "(0, 0), 1, ()", "(4,), 1, ()", "(0,), 0, ()", "(0,), 4, ()", "(0,), True, ()",
             "(0,), 1, (0,)", "(0,), 1, (17,)", "(0,), 1, (1,) * 9", "(0,), 1, [1]", "[0], 1, ()", "(0,), 1",
             "(0,), 1, 1", "(0,), 1, (True,)", "(0,), (1,), ()", "(0,), 1, (), ()", "(0,), 1, None", "(0,), 1, (None,)"],
    "seen": ["(), 0", "(0, 0), 1", "(4,), 1", "(-1,), 1", "(0,), -1", "(0,), 17", "(0,), True", "(0,), False",
             "[0], 1", "(0,)", "(0,), 1, 1", "(0,), (1,)", "(0,), None", "0, 1"],
    "joined": ["()", "(0,)", "(4,)", "(2, 1)", "(1, 1)", "[1]", "1", "(True,)", "(1,), (2,)", "", "None", "(1, None)"],
}


def rule_of(sort, parts):
    return (sort, *eval(f"({parts},)" if parts else "()"))


class Rules(unittest.TestCase):
    def test_each_sort_has_been_thought_of(self):
        for table in (RULES, GOOD, BAD):
            self.assertEqual(tuple(table), SORTS)

    def test_rules(self):
        for sort, rows in GOOD.items():
            self.assertIs(is_rule(4, 3, RULES[sort]), True)
            for parts in rows:
                self.assertIs(is_rule(4, 3, rule_of(sort, parts)), True, (sort, parts))

    def test_no_rules(self):
        for sort, rows in BAD.items():
            for parts in rows:
                self.assertIs(is_rule(4, 3, rule_of(sort, parts)), False, (sort, parts))

    def test_a_rule_of_a_sort_is_none_of_another(self):
        for sort, rule in RULES.items():
            for other in ("", "Unlike", "unlike ", "sums", "same", None, 0, True, b"sum", (), [], {}, ("sum",)):
                self.assertIs(is_rule(4, 3, (other,) + rule[1:]), False)
            self.assertIs(is_rule(4, 3, list(rule)), False)
            self.assertIs(is_rule(4, 3, (rule,)), False)
            self.assertIs(is_rule(4, 3, rule[1:]), False)
            self.assertIs(is_rule(4, 3, rule[:-1]), False)
            self.assertIs(is_rule(4, 3, rule + ((),)), False)

    def test_any_value_at_any_part(self):
        for sort, rule in RULES.items():
            for part in range(len(rule)):
                for value in STRANGE:
                    changed = rule[:part] + (value,) + rule[part + 1:]
                    self.assertIn(is_rule(4, 3, changed), (True, False))
                    # What is no number and no tuple of numbers stands nowhere in a rule.
                    if value is None or isinstance(value, (bool, list, dict, set, bytes)):
                        self.assertIs(is_rule(4, 3, changed), False, (sort, part, value))

    def test_any_value(self):
        for value in STRANGE:
            if value != ("unlike", (0, 1)):
                self.assertIs(is_rule(16, 6, value), False)

    def test_so_many_places_and_worths(self):
        self.assertTrue(is_rule(16, 6, ("unlike", tuple(range(16)))))
        self.assertTrue(is_rule(16, 2, ("unlike", (0, 15))))
        self.assertFalse(is_rule(15, 2, ("unlike", (0, 15))))
        self.assertFalse(is_rule(1, 6, ("unlike", (0, 1))))
        self.assertFalse(is_rule(1, 6, ("below", 0, 1)))
        self.assertTrue(is_rule(1, 2, ("sum", (0,), 0, 0)))
        self.assertTrue(is_rule(2, 2, ("below", 1, 0)))
        self.assertTrue(is_rule(1, 2, ("joined", (1, 2))))
        self.assertFalse(is_rule(16, 2, ("joined", (3,))))
        self.assertTrue(is_rule(16, 6, ("joined", (1, 2, 3, 4, 5, 6))))
        self.assertFalse(is_rule(16, 5, ("runs", (0,), 6, ())))
        self.assertTrue(is_rule(16, 6, ("runs", tuple(range(15, -1, -1)), 6, (16,))))

    def test_up_to_30_words(self):
        words = tuple((a, b) for a in range(1, 7) for b in range(1, 7))
        self.assertTrue(is_rule(2, 6, ("words", (0, 1), words[:30])))
        self.assertFalse(is_rule(2, 6, ("words", (0, 1), words[:31])))
        self.assertTrue(is_rule(2, 6, ("words", (0, 1), words[5:35])))
        self.assertFalse(is_rule(2, 6, ("words", (0, 1), words[:29] + words[:1])))


class Kinds(unittest.TestCase):
    def test_kinds(self):
        for kind in (SQUARE, ONE, LARGE, (4, 4, 6, ()), (1, 4, 2, ()), (4, 1, 3, (("seen", (3, 0), 1),)),
                     (2, 2, 3, tuple(RULES.values()))):
            self.assertIs(is_kind(kind), True, kind)

    def test_no_kinds(self):
        for kind in ((0, 1, 2, ()), (1, 0, 2, ()), (5, 1, 2, ()), (1, 5, 2, ()), (1, 1, 1, ()), (1, 1, 7, ()),
                     (True, 1, 2, ()), (1, True, 2, ()), (1, 1, True, ()), (1, 1, 2), (1, 1, 2, (), ()), (1, 1, 2, []),
                     [1, 1, 2, ()], (1, 1, 2, None), (-1, -1, 2, ()), (2, 2, 2, (("unlike", (0, 4)),)),
                     (2, 2, 2, (("unlike", (0, 1)), None)), (2, 2, 2, ("unlike", (0, 1))), (2, 2, 2, {}),
                     (4, 4, 6, LARGE[3] + LARGE[3][:1]), (2, 2, 2, (["unlike", (0, 1)],)), (2, 2, 2, (("joined", (3,)),)),
                     ("2", 2, 2, ()), (None, 2, 2, ()), (2, 2, 10 ** 399, ()), (10 ** 399, 1, 2, ()), (1, 2, (), ()),
                     (4, 1, 2, (("below", 3, 4),))):
            self.assertIs(is_kind(kind), False, kind)
        for value in STRANGE:
            self.assertIs(is_kind(value), False)
            for part in range(4):
                changed = SQUARE[:part] + (value,) + SQUARE[part + 1:]
                self.assertIs(is_kind(changed), value in ((), 1) and part != 2 and (part == 3) == (value == ())
                              and value is not True and changed[0] * changed[1] > 2, changed)

    def test_the_same_rule_may_stand_more_than_once(self):
        self.assertTrue(is_kind((2, 2, 2, (("unlike", (0, 1)),) * 12)))


class Sheets(unittest.TestCase):
    def test_sheets(self):
        for sheet in (((1,), (2,), (1, 2), ()), ((),) * 4, ((1, 2),) * 4):
            self.assertIs(is_sheet(SQUARE, sheet), True)
        self.assertIs(is_sheet(ONE, ((),)), True)
        self.assertIs(is_sheet(LARGE, ((1, 2, 3, 4, 5, 6),) * 16), True)

    def test_no_sheets(self):
        good = ((1,), (2,), (1, 2), ())
        for sheet in (good[:3], good + ((),), list(good), (), ((1,), (2,), (2, 1), ()), ((1,), (2,), (1, 1), ()),
                      ((1,), (2,), [1, 2], ()), ((1,), (2,), (1, 3), ()), ((0,), (2,), (1, 2), ()),
                      ((True,), (2,), (1, 2), ()), ((1,), (2,), None, ()), ((1,), (2,), 1, ()),
                      ((1,), (2,), ("1",), ()), ((1,), (2,), (1, None), ()), "1212", (1, 2, 1, 2), ((1, 2, 3),) * 4):
            self.assertIs(is_sheet(SQUARE, sheet), False, sheet)
        for value in STRANGE:
            self.assertIs(is_sheet(SQUARE, value), False)
            self.assertIs(is_sheet(SQUARE, good[:3] + (value,)), value in ((), (1,)) and isinstance(value, tuple))

    def test_fillings(self):
        for filling in ((1, 1, 1, 1), (2, 1, 1, 2)):
            self.assertIs(is_filling(SQUARE, filling), True)
        self.assertIs(is_filling(ONE, (2,)), True)
        self.assertIs(is_filling(LARGE, (6,) * 16), True)

    def test_no_fillings(self):
        for filling in ((1, 1, 1), (1,) * 5, [1, 1, 1, 1], (0, 1, 1, 1), (1, 1, 1, 3), (1, 1, True, 1), (), "1111",
                        (1, 1, 1, None), (1, 1, 1, (1,)), ((1,),) * 4, (1, 1, 1, "1"), (1, 1, 1, -1), b"\1\1\1\1"):
            self.assertIs(is_filling(SQUARE, filling), False, filling)
        for value in STRANGE:
            self.assertIs(is_filling(SQUARE, value), False)
            self.assertIs(is_filling(SQUARE, (1, 1, 1, value)), type(value) is int and value == 1)


class Puzzles(unittest.TestCase):
    def test_puzzles(self):
        for givens in ((), ((0, 1),), ((3, 2),), ((0, 1), (3, 2)), ((0, 1), (1, 1), (2, 2), (3, 1))):
            self.assertIs(is_puzzle((SQUARE, givens)), True, givens)
        self.assertIs(is_puzzle((ONE, ((0, 2),))), True)
        self.assertIs(is_puzzle((LARGE, tuple((place, 6) for place in range(16)))), True)

    def test_no_puzzles(self):
        for givens in (((3, 2), (0, 1)), ((0, 1), (0, 2)), ((0, 1), (0, 1)), ((4, 1),), ((-1, 1),), ((0, 0),), ((0, 3),),
                       [(0, 1)], ([0, 1],), ((0, 1, 1),), ((0,),), (0, 1), None, ((False, 1),), ((0, True),), ((),),
                       {0: 1}, ((0, 1), None), ((0, None),), ((None, 1),), (("0", 1),), "01", ((0, 1), (1,))):
            self.assertIs(is_puzzle((SQUARE, givens)), False, givens)
        for puzzle in ((SQUARE,), (SQUARE, (), ()), [SQUARE, ()], SQUARE, (SQUARE[:3], ()), ((), ()), (None, ())):
            self.assertIs(is_puzzle(puzzle), False)
        for value in STRANGE:
            self.assertIs(is_puzzle(value), False)
            self.assertIs(is_puzzle((value, ())), False)
            self.assertIs(is_puzzle((SQUARE, value)), value == () and isinstance(value, tuple))
            self.assertIs(is_puzzle((SQUARE, (value,))), False)

    def test_values_nested_deep(self):
        for deep in range(1, 58):
            for inmost in ((), [], {}, 1, None, "x"):
                value = nested(deep, inmost)
                self.assertFalse(is_kind(value) or is_puzzle(value) or is_sheet(SQUARE, value)
                                 or is_filling(SQUARE, value) or is_rule(4, 3, value))


if __name__ == "__main__":
    unittest.main()
