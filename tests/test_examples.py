"""The examples of the interface, word for word; names stay told from one section to the next."""
import doctest
import unittest

KINDS = """
>>> from onefilling.kinds import alone, begin, fills, holds, is_barred, is_kind, is_puzzle, is_rule, is_sheet, is_within, lies_in, struck, whole_sheet
>>> square = (2, 2, 2, (("unlike", (0, 1)), ("unlike", (0, 2)), ("unlike", (1, 3)), ("unlike", (2, 3))))
>>> hills = (1, 4, 3, (("sum", (0, 1, 2), 4, 5), ("seen", (3, 2, 1, 0), 2), ("runs", (0, 1, 2, 3), 1, (2, 1))))
>>> [is_kind(square), is_kind(square[:3]), holds(square, 0, (1, 2, 2, 1)), fills(square, (1, 2, 2, 1)), fills(square, (1, 2, 1, 2)), fills(hills, (1, 1, 3, 1)), fills(hills, (1, 1, 1, 1))]
[True, False, True, True, False, True, False]
>>> start = begin((square, ((0, 1),)))
>>> [start, whole_sheet(square)[0], is_within(square, start, whole_sheet(square)), lies_in(square, (2, 1, 1, 2), start), is_puzzle((square, ((0, 1), (0, 2))))]
[((1,), (1, 2), (1, 2), (1, 2)), (1, 2), True, False, False]
>>> [is_barred(square, 0, start), is_barred(square, 0, alone(square, start, 1, 1)), is_barred(square, 0, struck(square, start, 0, 1)), is_barred(hills, 0, ((3,), (2, 3), (1, 2, 3), (1,))), is_barred(hills, 2, ((1,), (1, 2), (1,), (1, 3)))]
[False, True, True, True, True]
>>> [is_rule(4, 3, ("joined", (2, 3))), is_rule(4, 3, ("below", 1, 1)), is_rule(4, 3, ("words", (0, 1), ((1, 2), (2, 1)))), is_rule(4, 3, ("words", (0, 1), ((2, 1), (1, 2)))), is_sheet(square, ((1,), (), (2, 1), (1,)))]
[True, False, True, False, False]
"""

FILLINGS = """
>>> from onefilling.fillings import filling_in, fillings, is_tree, other_filling, the_filling, tree_for
>>> [fillings(square, whole_sheet(square), 9), fillings(hills, whole_sheet(hills), 1), the_filling((square, ((0, 1),))), the_filling((hills, ())), other_filling((hills, ()), (1, 1, 2, 1))]
[((1, 2, 2, 1), (2, 1, 1, 2)), ((1, 1, 2, 1),), (1, 2, 2, 1), None, (1, 1, 3, 1)]
>>> twice = alone(square, start, 3, 2)
>>> [is_tree(square, twice, (0, 2), ("cases", 1, (("rule", 0), ("rule", 2)))), is_tree(square, twice, (0, 1), ("cases", 1, (("rule", 0), ("rule", 2)))), tree_for(square, twice, (0, 1)), filling_in(square, twice, (0, 1)), filling_in(square, twice, (0, 2))]
[True, False, None, (1, 2, 2, 2), None]
>>> gone = struck(square, start, 0, 1)
>>> [is_tree(square, gone, (), ("void", 0)), is_tree(square, gone, (), ("cases", 0, ())), is_tree(square, twice, (0, 2), tree_for(square, twice, (0, 2))), the_filling((square, ((0, 1), (3, 2))))]
[True, True, True, None]
"""


def tried(texts, told=None):
    """How many examples failed, and how many were tried; what fails is told."""
    names = {}
    failed = 0
    many = 0
    for text in texts:
        test = doctest.DocTestParser().get_doctest(text, names, "interface", None, None)
        runner = doctest.DocTestRunner(verbose=False)
        runner.run(test, out=told, clear_globs=False)
        names = test.globs
        failed += runner.failures
        many += runner.tries
    return failed, many


class Examples(unittest.TestCase):
    def test_kinds(self):
        self.assertEqual(tried([KINDS]), (0, 8))

    def test_fillings(self):
        self.assertEqual(tried([KINDS, FILLINGS]), (0, 14))

    def test_a_wrong_answer_is_noticed(self):
        told = []
        self.assertEqual(tried([">>> 1 + 1\n3\n"], told.append), (1, 1))
        self.assertTrue(told)


if __name__ == "__main__":
    unittest.main()
