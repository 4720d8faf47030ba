"""The examples of the interface, word for word; names stay told from one section to the next."""
import contextlib
import doctest
import io
import unittest

KINDS = """
>>> from onefilling.kinds import alone, begin, fills, holds, is_barred, is_kind, is_puzzle, is_rule, is_sheet, is_within, lies_in, struck, whole_sheet
>>> square = (2, 2, 2, (("unlike", (0, 1)), ("unlike", (0, 2)), ("unlike", (1, 3)), ("unlike", (2, 3))))
>>> hills = (1, 4, 3, (("sum", (0, 1, 2), 4, 5), ("seen", (3, 2, 1, 0), 2), ("runs", (0, 1, 2, 3), 1, (2, 1))))
>>> [is_kind(square), is_kind(square[:3]), holds(square, 0, (1, 2, 2, 1)), fills(square, (1, 2, 2, 1)), fills(square, (1, 2, 1, 2)), fills(hills, (1, 1, 3, 1)), fills(hills, (1, 1, 1, 1))]
[True, False, True, True, False, True, False]
>>> start = begin((square, ((0, 1),)))
>>> [start, whole_sheet(square)[0], is_within(square, start, whole_sheet(square)), lies_in(square, (2, 1, 1, 2), start), is_puzzle((square, ((0, 1), (0, 2))))]
[((1,), (1, 2), (1, 2), (1, 2)), (1, 2), True, False, False]
>>> [is_barred(square, 0, start), is_barred(square, 0, alone(square, start, 1, 1)), is_barred(square, 0, struck(square, start, 0, 1)), is_barred(hills, 0, ((3,), (2, 3), (1, 2, 3), (1,))), is_barred(hills, 2, ((1,), (1, 2), (1,), (1, 3)))]
[False, True, True, True, True]
>>> [is_rule(4, 3, ("joined", (2, 3))), is_rule(4, 3, ("below", 1, 1)), is_rule(4, 3, ("words", (0, 1), ((1, 2), (2, 1)))), is_rule(4, 3, ("words", (0, 1), ((2, 1), (1, 2)))), is_sheet(square, ((1,), (), (2, 1), (1,)))]
[True, False, True, False, False]
"""

FILLINGS = """
>>> from onefilling.fillings import filling_in, fillings, is_tree, other_filling, the_filling, tree_for
>>> [fillings(square, whole_sheet(square), 9), fillings(hills, whole_sheet(hills), 1), the_filling((square, ((0, 1),))), the_filling((hills, ())), other_filling((hills, ()), (1, 1, 2, 1))]
[((1, 2, 2, 1), (2, 1, 1, 2)), ((1, 1, 2, 1),), (1, 2, 2, 1), None, (1, 1, 3, 1)]
>>> twice = alone(square, start, 3, 2)
>>> [is_tree(square, twice, (0, 2), ("cases", 1, (("rule", 0), ("rule", 2)))), is_tree(square, twice, (0, 1), ("cases", 1, (("rule", 0), ("rule", 2)))), tree_for(square, twice, (0, 1)), filling_in(square, twice, (0, 1)), filling_in(square, twice, (0, 2))]
[True, False, None, (1, 2, 2, 2), None]
>>> gone = struck(square, start, 0, 1)
>>> [is_tree(square, gone, (), ("void", 0)), is_tree(square, gone, (), ("cases", 0, ())), is_tree(square, twice, (0, 2), tree_for(square, twice, (0, 2))), the_filling((square, ((0, 1), (3, 2))))]
[True, True, True, None]
"""

TEXTS = r"""
>>> from onefilling.texts import kind_of, kind_text, puzzle_of, puzzle_text, sheet_text
>>> kind_text(hills)
'floor 1 4\nworths 3\nsum 0 1 2 : 4 5\nseen 3 2 1 0 : 2\nruns 0 1 2 3 : 1 : 2 1\n'
>>> [puzzle_text((square, ((0, 1),)))[-16:], puzzle_of(puzzle_text((square, ((0, 1),)))) == (square, ((0, 1),)), kind_of(kind_text(hills)) == hills, sheet_text(square, start)]
['row 1 .\nrow . .\n', True, True, '1 12\n12 12\n']
>>> kind_of("floor 1 2\nworths 2\nbelow 0 0\n")
raises InvalidText(line=2)
"""

REASONS = """
>>> from onefilling.reasons import follows, is_reason, least_lots, led, rank_of, reason_for, strikes_for
>>> alike = (1, 2, 2, (("steps", 0, 1, 0, 0), ("sum", (0, 1), 2, 3)))
>>> both = ((1, 2), (1, 2))
>>> [follows(alike, both, (0,), (0, 2)), follows(alike, both, (0, 1), (0, 2)), follows(alike, both, (0, 1), (0, 1)), follows(alike, ((1, 2), ()), (), (0, 2))]
[False, True, False, True]
>>> [rank_of(alike, both, (0, 2)), rank_of(alike, both, (0, 1)), rank_of(alike, ((2,), (1, 2)), (1, 1)), rank_of(alike, ((1, 2), ()), (0, 1))]
[2, None, 1, 0]
>>> [least_lots(alike, both, (0, 2), 2), least_lots(alike, both, (0, 2), 1), least_lots(alike, ((2,), (1, 2)), (1, 2), 2), strikes_for(alike, both, 2), strikes_for(alike, both, 1)]
[((0, 1),), (), ((1,),), ((0, 2), (1, 2)), ()]
>>> reason = ((0, 1), 0, 2, ("cases", 1, (("rule", 0), ("rule", 1))))
>>> [is_reason(alike, both, reason), is_reason(alike, both, ((0,), 0, 2, ("rule", 0))), is_reason(alike, both, reason_for(alike, both, (0, 2), 2)), reason_for(alike, both, (0, 2), 1), led(alike, both, (reason,))]
[True, False, True, None, ((1,), (1, 2))]
"""

ENDS = """
>>> from onefilling.ends import cover_for, covers_for, depths, end, end_by, end_for, is_closed, is_cover, left_by, needed_lots, row_to_end
>>> [end(alike, both, 2), end(alike, both, 1), end(alike, ((2,), (1, 2)), 1), end(alike, ((1, 2), ()), 0), end_for(alike, both, ((0,), (0, 1))), end_for(alike, both, ())]
[((1,), (1,)), ((1, 2), (1, 2)), ((), ()), ((), ()), ((1,), (1,)), ((1, 2), (1, 2))]
>>> [end_by(alike, both, 2, ()), end_by(alike, both, 2, (3, 5)), led(alike, both, row_to_end(alike, both, 2)), depths(alike, both, 2), depths(alike, ((2,), (1, 2)), 1)]
[(((0, 2), (1, 2)), ((1,), (1,))), (((1, 2), (0, 2)), ((1,), (1,))), ((1,), (1,)), ((0, 2, 1), (1, 2, 1)), ((0, 2, 2), (1, 1, 1), (1, 2, 1))]
>>> [left_by(alike, both), left_by(alike, ((2,), (1, 2))), needed_lots(alike, both, ((0,), (0, 1), (1,))), is_closed(alike, both, 1), is_closed(alike, both, 2), is_cover(alike, both, (0,), ((1, 1), (2, 2))), is_cover(alike, both, (1,), ((1, 1),))]
[(4, 4, 2), (3, 0, 0), ((0, 1),), True, False, True, False]
>>> [cover_for(alike, both, (0, 1)), len(covers_for(alike, both, 1)), covers_for(alike, both, 2), covers_for(alike, ((), ()), 2), cover_for(alike, ((), (1,)), ())]
[None, 2, None, ((),), None]
"""

HARDNESS = """
>>> from onefilling.hardness import hardness, row_up_to, sheet_above
>>> [hardness((alike, ())), hardness((alike, ((0, 1),))), hardness((alike, ((0, 1), (1, 1)))), hardness((alike, ((0, 2),))), hardness((alike[:3] + (alike[3][:1],), ()))]
[2, 1, 0, None, None]
>>> [led(alike, both, row_up_to((alike, ()), 2)), row_up_to((alike, ()), 1), row_up_to((alike, ((0, 1), (1, 1))), 0), sheet_above((alike, ()), 1), sheet_above((alike, ()), 2), row_up_to((alike, ((0, 2),)), 2)]
[((1,), (1,)), None, (), ((1, 2), (1, 2)), None, None]
"""

MAKERS = r"""
>>> from onefilling.makers import fewest, gaps, idle, is_tight, is_told, made, puzzle_from, tight_lots
>>> lines = ("words", (0, 1, 2), ((1, 1, 1), (1, 2, 3), (1, 3, 3), (3, 2, 2), (3, 2, 3)))
>>> more = ("words", (3, 4, 5), ((1, 1, 1), (1, 3, 2), (3, 1, 2), (3, 2, 1), (3, 3, 2)))
>>> page = (2, 3, 3, (lines, more, ("unlike", (2, 5)), ("unlike", (1, 4)), ("count", (0, 1, 2, 3, 4, 5), (3,), 3, 3)))
>>> said = (1, 2, 3, 3, 3, 2)
>>> [gaps(page, said, 12), tight_lots(page, said, 12), gaps(page, said, 1), tight_lots(page, said, 1)]
[((0, 3), (0, 4), (1, 4)), ((0, 1), (0, 4), (3, 4)), ((0, 1, 2), (0, 3), (0, 4), (1, 4)), ((0, 1), (0, 4), (1, 3, 4), (2, 3, 4))]
>>> [fewest(page, said, 12), made(page, said, 1, (0, 1, 2, 3, 4, 5)), made(page, said, 12, (0, 1, 2, 3, 4, 5)), is_told(page, said, 1, (3, 4)), puzzle_from(page, said, (3, 4))[1], is_tight(puzzle_from(page, said, (3, 4)))]
[2, (2, 3, 4), (3, 4), False, ((3, 3), (4, 3)), True]
>>> [gaps(alike, (1, 1), 2), tight_lots(alike, (1, 1), 2), gaps(alike, (1, 1), 1), fewest(alike, (1, 1), 0), idle((alike, ((0, 1),))), idle((square, ((0, 1),)))]
[(), ((),), ((0, 1),), 2, (0,), ()]
"""

GAMES = r"""
>>> from onefilling.games import game_by_hints, grade_of, grades, hint, is_game, reasoned, sheets
>>> first, second = ("strike", 0, 2), ("strike", 1, 2)
>>> [hint((alike, ()), ()), game_by_hints((alike, ())) == (first, second), grades((alike, ()), (first, second)), reasoned((alike, ()), (first, ("undo",), second)), reasoned((alike, ()), (("write", 0, 2),))]
[('strike', 0, 2), True, (2, 1), 2, None]
>>> [sheets((alike, ()), (first, ("undo",))), is_game((alike, ()), (("undo",),)), is_game((alike, ()), (first, ("write", 0, 1))), grade_of(alike, both, ("write", 1, 1))]
[(((1, 2), (1, 2)), ((1,), (1, 2)), ((1, 2), (1, 2))), False, False, 2]
>>> start = ((1, 2, 3), (1, 2, 3), (1, 2, 3), (3,), (3,), (1, 2, 3))
>>> [hint((page, ((3, 3), (4, 3))), ()), grade_of(page, start, ("write", 0, 1)), grade_of(page, start, ("write", 5, 2)), grade_of(page, start, ("write", 0, 3)), len(game_by_hints((page, ((3, 3), (4, 3))))), reasoned((page, ((3, 3), (4, 3))), game_by_hints((page, ((3, 3), (4, 3)))))]
[('strike', 0, 2), 2, 1, None, 8, 2]
"""

TURNS = r"""
>>> from onefilling.turns import is_turn, keeps, least_of, turned_filling, turned_kind, turned_puzzle, turned_sheet, undoing
>>> pair, turn = (1, 2, 3, (("words", (0, 1), ((1, 2), (3, 1))),)), (1, (2, 3, 1))
>>> [turned_kind(pair, turn), turned_filling(pair, turn, (3, 1)), turned_sheet(pair, turn, ((1, 3), (1,))), undoing(pair, turn), turned_puzzle((pair, ((0, 3),)), turn)[1]]
[(1, 2, 3, (('words', (1, 0), ((1, 2), (2, 3))),)), (2, 1), ((2,), (1, 2)), (1, (3, 1, 2)), ((1, 1),)]
>>> [is_turn(alike, (0, (2, 1))), is_turn(square, (4, (2, 1))), keeps(square, (4, (2, 1))), keeps(pair, turn), least_of((square, ((3, 2),))), undoing(square, (5, (1, 2)))]
[False, True, True, False, ((0, 1),), (6, (1, 2))]
"""

BOOKS = r"""
>>> from onefilling.books import book_of, book_text, is_book, with_puzzle, without
>>> book = with_puzzle((square, ()), "one", ((0, 1),))
>>> [book_text(book)[-16:], book_of(book_text(book)) == book, without(book, "one") == (square, ()), is_book((square, (("one", ()),)))]
['\npuzzle one 0=1\n', True, True, False]
>>> with_puzzle(book, "two", ((3, 2),))
raises Alike(given='one')
"""


def outcome(source, names):
    """What an example shows: what it prints, or the error that it raises, as the document writes it."""
    shown = io.StringIO()
    try:
        with contextlib.redirect_stdout(shown):
            exec(compile(source, "interface", "single"), names)
    except Exception as error:  # whatever it is, it is compared
        told = ", ".join(f"{name}={value!r}" for name, value in vars(error).items())
        return f"raises {type(error).__name__}({told})\n"
    return shown.getvalue()


def tried(texts):
    """How many examples there are, and those that show something else than what stands there."""
    names = {}
    many = 0
    failed = []
    for text in texts:
        for example in doctest.DocTestParser().get_examples(text):
            many += 1
            shown = outcome(example.source, names)
            if shown != example.want:
                failed.append((example.source, example.want, shown))
    return many, failed


class Examples(unittest.TestCase):
    def test_kinds(self):
        self.assertEqual(tried([KINDS]), (8, []))

    def test_fillings(self):
        self.assertEqual(tried([KINDS, FILLINGS]), (14, []))

    def test_texts(self):
        self.assertEqual(tried([KINDS, FILLINGS, TEXTS]), (18, []))

    def test_reasons(self):
        self.assertEqual(tried([KINDS, REASONS]), (16, []))

    def test_ends(self):
        self.assertEqual(tried([KINDS, REASONS, ENDS]), (21, []))

    def test_hardness(self):
        self.assertEqual(tried([KINDS, REASONS, ENDS, HARDNESS]), (24, []))

    def test_makers(self):
        self.assertEqual(tried([KINDS, REASONS, MAKERS]), (24, []))

    def test_games(self):
        self.assertEqual(tried([KINDS, REASONS, MAKERS, GAMES]), (30, []))

    def test_turns(self):
        self.assertEqual(tried([KINDS, REASONS, TURNS]), (20, []))

    def test_books(self):
        self.assertEqual(tried([KINDS, BOOKS]), (12, []))

    def test_all_of_them_in_order(self):
        texts = [KINDS, FILLINGS, TEXTS, REASONS, ENDS, HARDNESS, MAKERS, GAMES, TURNS, BOOKS]
        self.assertEqual(tried(texts), (56, []))

    def test_a_wrong_answer_is_noticed(self):
        for text, shown in ((">>> 1 + 1\n3\n", "2\n"), (">>> 1 + 1\nraises ValueError()\n", "2\n"),
                            (">>> {}[1]\n1\n", "raises KeyError()\n"), (">>> x = 1\n1\n", "")):
            self.assertEqual([told for source, want, told in tried([text])[1]], [shown])
        wrong = TEXTS.replace("line=2", "line=1")
        self.assertEqual([told for source, want, told in tried([KINDS, wrong])[1]], ["raises InvalidText(line=2)\n"])


if __name__ == "__main__":
    unittest.main()
