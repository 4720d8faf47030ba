"""Arguments and their errors: [3] to [5], for each function of the interface that is there."""
import copy
import inspect
import itertools
import unittest

from helper import STRANGE, error_of

from onefilling import (books, certificates, checker, console, ends, errors, fillings, games, hardness, kinds, makers,
                        reasons, shown, texts, turns)

MODULES = (kinds, fillings, texts, reasons, ends, hardness, makers, games, turns, books, shown, console, checker,
           certificates)

SQUARE = (2, 2, 2, (("unlike", (0, 1)), ("unlike", (0, 2)), ("unlike", (1, 3)), ("unlike", (2, 3))))
BARE = (1, 2, 2, ())
SHEET = ((1,), (1, 2), (1, 2), (2,))
FILLING = (1, 2, 2, 1)
PUZZLE = (SQUARE, ((0, 1),))
TREE = ("cases", 1, (("rule", 0), ("rule", 2)))
REASON = ((0,), 1, 1, ("rule", 0))

BAD_KIND = (None, 5, [], (), SQUARE[:3], list(SQUARE), SQUARE + ((),), (2, 2, 7, ()), (True, 2, 2, ()),
            (2, 2, 2, (("unlike", (0, 4)),)), (5, 1, 2, ()), "kind", PUZZLE, {"rows": 2})
BAD_PUZZLE = (None, SQUARE, [SQUARE, ()], (SQUARE, ((0, 3),)), (SQUARE, ((0, 1), (0, 2))), (SQUARE[:3], ()), (SQUARE,),
              (SQUARE, ((True, 1),)), (SQUARE, [(0, 1)]), (SQUARE, ((4, 1),)), "puzzle", ())
BAD_SHEET = (None, (), SHEET[:3], SHEET + ((),), list(SHEET), ((1,), (2, 1), (1,), (1,)), ((1,), [1], (1,), (1,)),
             ((1,), (3,), (1,), (1,)), ((1,), (True,), (1,), (1,)), FILLING, "1111", ((1,), (1, 1), (), ()))
BAD_FILLING = (None, (), FILLING[:3], FILLING + (1,), list(FILLING), (1, 2, 2, 3), (0, 2, 2, 1), (True, 2, 2, 1),
               SHEET, "1221", {1: 2})
BAD_INDEX = (None, -1, 4, True, False, "0", (0,), [0], 10 ** 399, -10 ** 399, b"\0", {})
BAD_PLACE = BAD_INDEX
BAD_WORTH = (None, 0, 3, -1, True, "1", (1,), [1], 10 ** 399, {}, b"\1")
BAD_LOT = (None, 0, [0], (4,), (-1,), (1, 0), (0, 0), (True,), (0, None), "0", {0: 1}, ((0,),), (10 ** 399,))
BAD_MOST = (None, -1, 1001, True, False, "1", (1,), [1], 10 ** 399, -10 ** 399)
BAD_RULES = (None, -1, 13, True, False, "1", (1,), [1], 10 ** 399, -10 ** 399, b"\1", {})
BAD_STRIKE = (None, (), (1,), (1, 1, 1), [1, 1], (1, 3), (1, 0), (4, 1), (-1, 1), (0, 2), (3, 1), (True, 1), (1, True),
              (None, 1), (1, None), ((1, 1),), "11", {1: 1}, 1, (10 ** 399, 1), (1, 10 ** 399), (1, (1,)))
# What is no tuple of the told form, and tuples with the index of the first wrong one: each beside what is kept.
BAD_TEXT = ((None, None), (b"floor 1 1\nworths 2\n", None), (["floor 1 1"], None), ((), None), (0, None), ("", 0),
            ("floor 1 1\n", 1), ("floor 1 1\nworths 2\nrow 3\n", 2), ("floor 1 1\nworths 2\nbelow 0 0\n", 2))
BAD_ROW = ((None, None), ([], None), ("", None), ({}, None), (0, None), ((None,), 0), (REASON, 0), ((REASON, REASON), 1),
           (((REASON,),), 0), ((list(REASON),), 0), ((REASON, ()), 1), ((REASON[:3],), 0))
BAD_LOTS = ((None, None), ([], None), ("", None), ({(): 1}, None), (0, None), (((),) * 1001, None), ((0,), 0),
            (((0,), (0,)), 1), (((0, 1), (0,)), 1), (((), (0,), ()), 2), (((), (4,)), 1), (((0,), [1]), 1), ((None,), 0),
            (((1, 0),), 0), (((True,),), 0), (((0,), (-1,)), 1), (((0,), "1"), 1), (((), (0, 1), (0,), None), 2),
            (((),) * 1000, 1))
BAD_ORDER = ((None, None), ([], None), ("", None), ({}, None), (0, None), ((0,) * 101, None), ((-1,), 0), ((0, True), 1),
             ((0, None), 1), ((0, 1, "2"), 2), (((0,),), 0), ((5, [0]), 1), ((10 ** 399, -10 ** 399), 1), ((None, -1), 0))
BAD_PLACES = (None, 0, 17, -1, True, "1", (1,), [1], 10 ** 399)
BAD_WORTHS = (None, 0, 1, 7, -1, True, "2", (2,), [2], 10 ** 399)
BAD_FULL = BAD_FILLING + ((1, 1, 2, 2), (1, 1, 1, 1), (2, 1, 2, 1))
BAD_PLACE_LOT = (None, 0, [0], (4,), (-1,), (1, 0), (0, 0), (True,), (0, None), "0", {0: 1}, ((0,),), (10 ** 399,), (0, 1, 1))
BAD_PLACES_IN_ORDER = ((None, None), ([], None), ("0123", None), ({}, None), (0, None), ((), None), ((0, 1, 2), None),
                       ((0, 1, 2, 3, 3), None), ((0, 1, 2, 4), 3), ((0, 1, 1, 2), 2), ((-1, 0, 1, 2), 0), ((1, True, 2, 3), 1),
                       ((0, 0, 9, None), 1), ((3, 2, 1, None), 3), ((0, [1], 2, 3), 1), ((10 ** 399, 0, 1, 2), 0),
                       ((False, 1, 2, 3), 0), ((0, 1, 2, "3"), 3))
STRIKES = (("strike", 1, 1), ("undo",), ("write", 2, 2))
BAD_MOVES = ((None, None), ([], None), ("undo", None), ({}, None), (0, None), ((None,), 0), ((("undo",),), 0),
             ((("strike", 0, 1),), 0), ((("write", 1, 1), ("strike", 1, 1)), 1), (STRIKES + (("undo",), ("undo",)), 4),
             (STRIKES + (("write", 1, 3), None), 3), ((("strike", 1, 1), ["undo"]), 1), (STRIKES[:2] * 101, 200),
             ((("write", 1, True),), 0), ((("write", 10 ** 399, 1),), 0))
BAD_MOVE = (None, (), ("undo",), ("write", 0, 1), ("strike", 3, 2), ("write", 1, 3), ("write", 4, 1), ("write", -1, 1),
            ["write", 1, 1], ("write", 1), ("write", 1, 1, 1), ("Write", 1, 1), ("write", True, 1), ("write", 1, True), "write",
            (1, 1, 1), (("write",), 1, 1), ("write", [1], 1), ("strike", 1, None), ("strike", 10 ** 399, 1), {}, 1)
BAD_TURN = (None, (), (0,), (8, (1, 2)), (-1, (1, 2)), (True, (1, 2)), (0, (1, 1)), (0, (1,)), (0, (1, 2, 3)), (0, [1, 2]),
            [0, (1, 2)], (0, (True, 2)), (0, (1, None)), "0", (0, "12"), (0, (0, 1)), (None, None), (10 ** 399, (1, 2)), {})
ENTRY = ("one", ((0, 1),))
BOOK = (SQUARE, (ENTRY,))
BAD_BOOK = ((None, None), ([], None), ((), None), ((SQUARE,), None), ((SQUARE, [ENTRY]), None), ([SQUARE, (ENTRY,)], None),
            ((SQUARE[:3], ()), None), ("book", None), ({}, None), ((SQUARE, (ENTRY,) * 61), None), ((SQUARE, (None,)), 0),
            ((SQUARE, (ENTRY, ENTRY)), 1), ((SQUARE, (ENTRY, ("two", ((3, 2),)))), 1), ((SQUARE, (("one", ()),)), 0),
            ((SQUARE, ((ENTRY[0], [(0, 1)]), None)), 0), ((SQUARE, ENTRY), 0), ((SQUARE, (("", ((0, 1),)),)), 0),
            ((SQUARE, (ENTRY, None, None)), 1), ((SQUARE, (["one", ((0, 1),)],)), 0), ((SQUARE, (([], ((0, 1),)),)), 0))
BAD_NAME = (None, "", "abcdefghijklm", "One", "one ", "o ne", "1", 1, True, b"one", ["o"], ("one",), {}, "\n", "\u00e9", ())
BAD_SHOWN = (None, "", "one", "Hills", "hills ", b"hills", ["hills"], ("hills",), 0, True, {}, "hill", 10 ** 399)
BAD_COMMANDS = ((None, None), ([], None), ("hint", None), ({}, None), (0, None), ((None,), 0), (("hint", b"hint"), 1),
                ((("hint",),), 0), (("hint",) * 101, 100), (("", "", ["hint"], None), 2), ((True,), 0))
BAD_TIGHT = (None, (), [(0, 1)], ((0, 1), (3, 1)), ((0, 3),), ((4, 1),), (0, 1), "0=1", ((True, 1),), ((1, 2), (0, 1)), {}, 1,
             ((0, 1), (0, 1)), ((0, 1, 1),), ([0, 1],), ((0, 1), (3, 2)))

# For each function: its parameters, in order, each with a value that is one, the error, values that are none.
KIND = ("kind", SQUARE, "InvalidKind", BAD_KIND)
PUZZLES = ("puzzle", PUZZLE, "InvalidPuzzle", BAD_PUZZLE)
SHEETS = ("sheet", SHEET, "InvalidSheet", BAD_SHEET)
OTHER = ("other", SHEET, "InvalidSheet", BAD_SHEET)
FILLINGS = ("filling", FILLING, "InvalidFilling", BAD_FILLING)
INDEX = ("index", 2, "InvalidNumber", BAD_INDEX)
PLACE = ("place", 1, "InvalidNumber", BAD_PLACE)
WORTH = ("worth", 2, "InvalidNumber", BAD_WORTH)
LOT = ("lot", (0, 2), "InvalidLot", BAD_LOT)
MOST = ("most", 9, "InvalidNumber", BAD_MOST)
VALUE = ("value", SHEET, None, ())
STRIKE = ("strike", (1, 1), "InvalidStrike", BAD_STRIKE)
RULES = ("most", 2, "InvalidNumber", BAD_RULES)
LOTS = ("lots", ((), (0,), (0, 2)), "InvalidLots", BAD_LOTS)
ORDER = ("order", (1, 0, 10 ** 399), "InvalidOrder", BAD_ORDER)
FULL = ("filling", FILLING, "InvalidFilling", BAD_FULL)
PLACE_LOT = ("places", (0, 3), "InvalidLot", BAD_PLACE_LOT)
MOVES = ("moves", STRIKES, "InvalidMoves", BAD_MOVES)
TURN = ("turn", (5, (2, 1)), "InvalidTurn", BAD_TURN)
BOOKS = ("book", BOOK, "InvalidBook", BAD_BOOK)
FREE_BOOK = ("book", (SQUARE, ()), "InvalidBook", BAD_BOOK)
NAME = ("name", "one", "InvalidName", BAD_NAME)
FUNCTIONS = (
    (kinds.is_rule, (("places", 4, "InvalidNumber", BAD_PLACES), ("worths", 3, "InvalidNumber", BAD_WORTHS), VALUE)),
    (kinds.is_kind, (VALUE,)),
    (kinds.is_puzzle, (VALUE,)),
    (kinds.is_sheet, (KIND, VALUE)),
    (kinds.is_filling, (KIND, VALUE)),
    (kinds.holds, (KIND, INDEX, FILLINGS)),
    (kinds.fills, (KIND, FILLINGS)),
    (kinds.lies_in, (KIND, FILLINGS, SHEETS)),
    (kinds.is_within, (KIND, SHEETS, OTHER)),
    (kinds.is_barred, (KIND, INDEX, SHEETS)),
    (kinds.whole_sheet, (KIND,)),
    (kinds.begin, (PUZZLES,)),
    (kinds.alone, (KIND, SHEETS, PLACE, WORTH)),
    (kinds.struck, (KIND, SHEETS, PLACE, WORTH)),
    (fillings.filling_in, (KIND, SHEETS, LOT)),
    (fillings.tree_for, (KIND, SHEETS, LOT)),
    (fillings.is_tree, (KIND, SHEETS, LOT, ("value", TREE, None, ()))),
    (fillings.fillings, (KIND, SHEETS, MOST)),
    (fillings.the_filling, (PUZZLES,)),
    (fillings.other_filling, (PUZZLES, FILLINGS)),
    (texts.kind_text, (KIND,)),
    (texts.puzzle_text, (PUZZLES,)),
    (texts.kind_of, (("text", "floor 1 2\nworths 2\nbelow 0 1\n", "InvalidText", BAD_TEXT),)),
    (texts.puzzle_of, (("text", "floor 1 2\nworths 2\nbelow 0 1\nrow . 2\n", "InvalidText", BAD_TEXT),)),
    (texts.sheet_text, (KIND, SHEETS)),
    (reasons.follows, (KIND, SHEETS, LOT, STRIKE)),
    (reasons.rank_of, (KIND, SHEETS, STRIKE)),
    (reasons.least_lots, (KIND, SHEETS, STRIKE, RULES)),
    (reasons.strikes_for, (KIND, SHEETS, RULES)),
    (reasons.reason_for, (KIND, SHEETS, STRIKE, RULES)),
    (reasons.is_reason, (KIND, SHEETS, ("value", REASON, None, ()))),
    (reasons.led, (KIND, SHEETS, ("row", (REASON,), "InvalidRow", BAD_ROW))),
    (ends.end, (KIND, SHEETS, RULES)),
    (ends.end_for, (KIND, SHEETS, LOTS)),
    (ends.end_by, (KIND, SHEETS, RULES, ORDER)),
    (ends.row_to_end, (KIND, SHEETS, RULES)),
    (ends.depths, (KIND, SHEETS, RULES)),
    (ends.left_by, (KIND, SHEETS)),
    (ends.needed_lots, (KIND, SHEETS, LOTS)),
    (ends.is_closed, (KIND, SHEETS, RULES)),
    (ends.cover_for, (KIND, SHEETS, LOT)),
    (ends.is_cover, (KIND, SHEETS, LOT, ("value", ((1, 2, 2, 2), (1, 2, 1, 2)), None, ()))),
    (ends.covers_for, (KIND, SHEETS, RULES)),
    (hardness.hardness, (PUZZLES,)),
    (hardness.row_up_to, (PUZZLES, RULES)),
    (hardness.sheet_above, (PUZZLES, RULES)),
    (makers.puzzle_from, (KIND, FULL, PLACE_LOT)),
    (makers.is_told, (KIND, FULL, RULES, PLACE_LOT)),
    (makers.gaps, (KIND, FULL, RULES)),
    (makers.tight_lots, (KIND, FULL, RULES)),
    (makers.fewest, (KIND, FULL, RULES)),
    (makers.made, (KIND, FULL, RULES, ("order", (3, 1, 0, 2), "InvalidOrder", BAD_PLACES_IN_ORDER))),
    (makers.idle, (PUZZLES,)),
    (makers.is_tight, (PUZZLES,)),
    (games.is_game, (PUZZLES, ("value", STRIKES, None, ()))),
    (games.sheets, (PUZZLES, MOVES)),
    (games.grade_of, (KIND, SHEETS, ("move", ("write", 1, 2), "InvalidMove", BAD_MOVE))),
    (games.grades, (PUZZLES, MOVES)),
    (games.reasoned, (PUZZLES, MOVES)),
    (games.hint, (PUZZLES, MOVES)),
    (games.game_by_hints, (PUZZLES,)),
    (turns.is_turn, (KIND, ("value", (5, (2, 1)), None, ()))),
    (turns.turned_kind, (KIND, TURN)),
    (turns.turned_sheet, (KIND, TURN, SHEETS)),
    (turns.turned_filling, (KIND, TURN, FILLINGS)),
    (turns.turned_puzzle, (PUZZLES, TURN)),
    (turns.undoing, (KIND, TURN)),
    (turns.keeps, (KIND, TURN)),
    (turns.least_of, (PUZZLES,)),
    (books.is_book, (("value", BOOK, None, ()),)),
    (books.with_puzzle, (FREE_BOOK, NAME, ("givens", ((3, 2),), "InvalidPuzzle", BAD_TIGHT))),
    (books.without, (BOOKS, NAME)),
    (books.book_text, (BOOKS,)),
    (shown.shown_names, ()),
    (shown.shown, (("name", "paths", "InvalidName", BAD_SHOWN),)),
    (console.said, (("commands", ("show hills", "hint", "?"), "InvalidCommands", BAD_COMMANDS),)),
    (checker.accepts, (("claim", ("fills", SQUARE, FILLING), None, ()), ("paper", (), None, ()))),
    (certificates.certify_fillings, (PUZZLES,)),
    (certificates.certify_follows, (KIND, SHEETS, LOT, STRIKE)),
    (certificates.certify_least, (KIND, SHEETS, STRIKE, RULES)),
    (certificates.certify_end, (KIND, SHEETS, RULES)),
    (certificates.certify_hard, (PUZZLES, RULES)),
    (certificates.certify_hardness, (PUZZLES,)),
    (certificates.certify_tight, (PUZZLES,)),
    (certificates.certify_gap, (KIND, FULL, RULES)),
    (certificates.certify_fewest, (KIND, FULL, RULES)),
    (certificates.certify_game, (PUZZLES, MOVES)),
    (certificates.certify_turned, (PUZZLES, TURN)),
    (books.book_of, (("text", "floor 1 2\nworths 2\nbelow 0 1\npuzzle one\n", "InvalidText", BAD_TEXT),)),
)
# What an error keeps that does not keep the value.
KEEPS = {"InvalidText": "line", "InvalidRow": "index", "InvalidLots": "index", "InvalidOrder": "index",
         "InvalidMoves": "index", "InvalidBook": "index", "InvalidCommands": "index"}


def good_values(parameters):
    return [value for name, value, error, bad in parameters]


def wrong_values(parameter):
    """The values that are none, each with what the error keeps."""
    name, value, error, bad = parameter
    return bad if error in KEEPS else [(given, given) for given in bad]


class Arguments(unittest.TestCase):
    def test_all_functions_of_the_interface_stand_here(self):
        for module in MODULES:
            here = {function.__name__ for function, parameters in FUNCTIONS if function.__module__ == module.__name__}
            told = {name for name, value in vars(module).items()
                    if inspect.isfunction(value) and value.__module__ == module.__name__ and not name.startswith("_")}
            self.assertEqual(here, told)

    def test_the_names_of_the_parameters_in_order(self):
        for function, parameters in FUNCTIONS:
            told = inspect.signature(function).parameters.values()
            self.assertEqual([one.name for one in told], [name for name, *rest in parameters], function)
            self.assertTrue(all(one.kind == one.POSITIONAL_OR_KEYWORD and one.default is one.empty for one in told))

    def test_by_position_and_by_name(self):
        for function, parameters in FUNCTIONS:
            values = good_values(parameters)
            named = {name: value for (name, *rest), value in zip(parameters, values)}
            told = function(*values)
            self.assertEqual(function(**named), told)
            self.assertEqual(function(*values), told)
            self.assertEqual(function(**dict(reversed(named.items()))), told)
            for position in range(len(values)):
                rest = {name: named[name] for name in list(named)[position:]}
                self.assertEqual(function(*values[:position], **rest), told)

    def test_each_wrong_argument_by_itself(self):
        for function, parameters in FUNCTIONS:
            for at, (name, value, error, bad) in enumerate(parameters):
                for given, kept in wrong_values(parameters[at]):
                    values = good_values(parameters)
                    values[at] = given
                    self.wrong(function, parameters, values, error, kept)

    def wrong(self, function, parameters, values, error, kept):
        names = [name for name, *rest in parameters]
        for told in (error_of(function, *values), error_of(function, **dict(zip(names, values)))):
            self.assertIsNotNone(told, (function, values))
            self.assertIs(told.kind, getattr(errors, error), (function, values))
            self.assertEqual(list(told.told), [KEEPS.get(error, "given")])
            self.assertIs(told.told[KEEPS.get(error, "given")], kept, (function, values))

    def test_of_several_wrong_arguments_the_first_one_in_the_order_of_the_signature(self):
        for function, parameters in FUNCTIONS:
            checked = [at for at, (name, value, error, bad) in enumerate(parameters) if error]
            for size in range(2, len(checked) + 1):
                for places in itertools.combinations(checked, size):
                    values = good_values(parameters)
                    for at in places:
                        values[at] = wrong_values(parameters[at])[-1][0]
                    first = parameters[places[0]]
                    self.wrong(function, parameters, values, first[2], wrong_values(first)[-1][1])

    def test_a_wrong_kind_comes_ahead_of_what_fits_no_kind(self):
        for function, parameters in FUNCTIONS:
            if parameters and parameters[0][0] in ("kind", "puzzle"):
                values = [None] + [{}] * (len(parameters) - 1)
                self.wrong(function, parameters, values, parameters[0][2], None)

    def test_any_value_that_is_told_of_raises_no_other_error(self):
        for function, parameters in FUNCTIONS:
            for at, (name, good, error, bad) in enumerate(parameters):
                for value in STRANGE:
                    values = good_values(parameters)
                    values[at] = value
                    told = error_of(function, *values)
                    if error is None:
                        self.assertIsNone(told)
                    elif told is not None:
                        self.assertIs(told.kind, getattr(errors, error))
                        self.assertTrue(error in KEEPS or told.told["given"] is value)

    def test_a_list_is_taken_for_no_tuple(self):
        for function, parameters in FUNCTIONS:
            for at, (name, value, error, bad) in enumerate(parameters):
                if isinstance(value, tuple) and error:
                    values = good_values(parameters)
                    values[at] = list(value)
                    self.wrong(function, parameters, values, error, None if error in KEEPS else values[at])

    def test_nothing_that_is_passed_is_changed(self):
        for function, parameters in FUNCTIONS:
            values = good_values(parameters)
            before = copy.deepcopy(values)
            function(*values)
            self.assertEqual(values, before)
            for at, (name, value, error, bad) in enumerate(parameters):
                for given, kept in wrong_values(parameters[at]):
                    changed = good_values(parameters)
                    changed[at] = given
                    before = copy.deepcopy(changed)
                    error_of(function, *changed)
                    self.assertEqual(changed, before)
        for value in ([SQUARE], {1: [2]}, [[1, 2], [3]], {"kind": SQUARE}):
            before = copy.deepcopy(value)
            for told in (kinds.is_kind(value), kinds.is_puzzle((SQUARE, value)), kinds.is_sheet(SQUARE, value),
                         kinds.is_filling(SQUARE, value), kinds.is_rule(4, 3, ("sum", value, 0, 1)),
                         fillings.is_tree(SQUARE, SHEET, (0, 2), ("cases", 1, value))):
                self.assertIs(told, False)
            self.assertEqual(value, before)

    def test_the_ends_of_what_numbers_are_asked_for(self):
        self.assertEqual([error_of(kinds.is_rule, places, 2, ()) is None for places in (0, 1, 16, 17)],
                         [False, True, True, False])
        self.assertEqual([error_of(kinds.is_rule, 1, worths, ()) is None for worths in (1, 2, 6, 7)],
                         [False, True, True, False])
        self.assertEqual([error_of(fillings.fillings, BARE, ((1,), (1,)), most) is None for most in (-1, 0, 1000, 1001)],
                         [False, True, True, False])
        self.assertEqual([error_of(kinds.holds, SQUARE, index, FILLING) is None for index in (-1, 0, 3, 4)],
                         [False, True, True, False])
        self.assertEqual([error_of(kinds.is_barred, SQUARE, index, SHEET) is None for index in (-1, 0, 3, 4)],
                         [False, True, True, False])
        for function in (kinds.alone, kinds.struck):
            self.assertEqual([error_of(function, SQUARE, SHEET, place, 1) is None for place in (-1, 0, 3, 4)],
                             [False, True, True, False])
            self.assertEqual([error_of(function, SQUARE, SHEET, 0, worth) is None for worth in (0, 1, 2, 3)],
                             [False, True, True, False])

    def test_the_ends_of_what_numbers_and_tuples_are_asked_for_in_reasons_and_ends(self):
        for function, parameters in FUNCTIONS:
            for at, (name, value, error, bad) in enumerate(parameters):
                values = good_values(parameters)
                if bad is BAD_RULES:
                    for most in range(13):
                        values[at] = most
                        self.assertIsNone(error_of(function, *values), (function, most))
                if bad is BAD_ORDER:
                    for order in ((), (0,) * 100, (10 ** 399,) * 100):
                        values[at] = order
                        self.assertIsNone(error_of(function, *values), (function, order))
                if name == "lots":
                    lots = tuple(sorted(lot for size in range(5) for lot in itertools.combinations(range(4), size)))
                    for some in ((), ((),), lots, lots[3:]):
                        values[at] = some
                        self.assertIsNone(error_of(function, *values), (function, some))

    def test_1000_lots_are_taken_and_no_more(self):
        kind = (1, 2, 2, (("sum", (0,), 1, 2),) * 12)
        lots = tuple(sorted(lot for size in (2, 3, 5, 6) for lot in itertools.combinations(range(12), size)))[:1001]
        for function in (ends.end_for, ends.needed_lots):
            self.assertIsNone(error_of(function, kind, ((1, 2),) * 2, lots[:1000]))
            told = error_of(function, kind, ((1, 2),) * 2, lots)
            self.assertEqual((told.kind, told.told), (errors.InvalidLots, {"index": None}))

    def test_a_strike_is_one_of_the_very_sheet(self):
        for function in (reasons.follows, reasons.rank_of, reasons.least_lots, reasons.reason_for):
            names = list(inspect.signature(function).parameters)
            given = {"kind": SQUARE, "lot": (0,), "most": 1}
            for sheet, strike, right in ((SHEET, (0, 1), True), (SHEET, (0, 2), False), (SHEET, (3, 1), False),
                                         (((), (1,), (2,), ()), (0, 1), False), (((), (1,), (2,), ()), (2, 2), True)):
                values = {**given, "sheet": sheet, "strike": strike}
                told = error_of(function, **{name: values[name] for name in names})
                if right:
                    self.assertIsNone(told)
                else:
                    self.assertEqual((told.kind, told.told), (errors.InvalidStrike, {"given": strike}))

    def test_a_kind_without_rules_has_no_index_and_one_lot(self):
        for index in (-1, 0, 1):
            told = error_of(kinds.holds, BARE, index, (1, 1))
            self.assertEqual((told.kind, told.told), (errors.InvalidNumber, {"given": index}))
            told = error_of(kinds.is_barred, BARE, index, ((), ()))
            self.assertEqual((told.kind, told.told), (errors.InvalidNumber, {"given": index}))
        for lot, right in (((), None), ((0,), errors.InvalidLot), ((-1,), errors.InvalidLot)):
            for function in (fillings.filling_in, fillings.tree_for, ends.cover_for):
                told = error_of(function, BARE, ((1,), (1,)), lot)
                self.assertEqual(told and told.kind, right)

    def test_a_sheet_of_another_kind_is_none(self):
        told = error_of(kinds.is_within, SQUARE, SHEET, ((1, 2),) * 3)
        self.assertEqual((told.kind, told.told), (errors.InvalidSheet, {"given": ((1, 2),) * 3}))
        told = error_of(fillings.other_filling, (BARE, ()), FILLING)
        self.assertEqual((told.kind, told.told), (errors.InvalidFilling, {"given": FILLING}))

    def test_what_is_returned_may_be_passed(self):
        whole = kinds.whole_sheet(SQUARE)
        sheet = kinds.struck(SQUARE, kinds.alone(SQUARE, kinds.begin(PUZZLE), 3, 2), 1, 1)
        self.assertTrue(kinds.is_sheet(SQUARE, whole) and kinds.is_sheet(SQUARE, sheet))
        self.assertTrue(kinds.is_within(SQUARE, sheet, whole))
        tree = fillings.tree_for(SQUARE, sheet, (0, 1, 2, 3))
        self.assertTrue(fillings.is_tree(SQUARE, sheet, (0, 1, 2, 3), tree))
        for filling in fillings.fillings(SQUARE, whole, 9):
            self.assertTrue(kinds.is_filling(SQUARE, filling) and kinds.fills(SQUARE, filling))
            self.assertNotEqual(fillings.other_filling((SQUARE, ()), filling), filling)

    def test_what_reasons_and_ends_return_may_be_passed(self):
        puzzle = texts.puzzle_of(texts.puzzle_text(PUZZLE))
        row = ends.row_to_end(SQUARE, SHEET, 2)
        self.assertTrue(row and reasons.is_reason(SQUARE, SHEET, row[0]))
        self.assertEqual(reasons.led(SQUARE, SHEET, row), ends.end(SQUARE, SHEET, 2))
        self.assertEqual(reasons.led(SQUARE, kinds.begin(puzzle), hardness.row_up_to(puzzle, 4)), ((1,), (2,), (2,), (1,)))
        for strike in reasons.strikes_for(SQUARE, SHEET, 2):
            lots = reasons.least_lots(SQUARE, SHEET, strike, 4)
            self.assertNotEqual(ends.end_for(SQUARE, SHEET, lots), SHEET)
            self.assertTrue(all(reasons.follows(SQUARE, SHEET, lot, strike) for lot in lots))
            needed = ends.needed_lots(SQUARE, SHEET, lots)
            self.assertEqual(ends.needed_lots(SQUARE, SHEET, needed), needed)
        above = hardness.sheet_above((SQUARE, ()), 4)
        self.assertTrue(ends.is_closed(SQUARE, above, 4))
        self.assertTrue(ends.is_cover(SQUARE, above, (0, 1, 2, 3), ends.covers_for(SQUARE, above, 4)[0]))
        self.assertEqual(texts.sheet_text(SQUARE, above), "12 12\n12 12\n")

    def test_what_is_returned_is_of_the_told_kind(self):
        for function in (kinds.is_rule, kinds.is_kind, kinds.is_puzzle, kinds.is_sheet, kinds.is_filling, kinds.holds,
                         kinds.fills, kinds.lies_in, kinds.is_within, kinds.is_barred, fillings.is_tree,
                         reasons.follows, reasons.is_reason, ends.is_closed, ends.is_cover):
            parameters = [rows for told, rows in FUNCTIONS if told is function][0]
            self.assertIs(type(function(*good_values(parameters))), bool)
        for function in (kinds.whole_sheet, kinds.begin, kinds.alone, kinds.struck, ends.end, ends.end_for, reasons.led):
            parameters = [rows for told, rows in FUNCTIONS if told is function][0]
            told = function(*good_values(parameters))
            self.assertTrue(type(told) is tuple and all(type(lot) is tuple for lot in told))
            self.assertTrue(all(type(worth) is int for lot in told for worth in lot))
        told = fillings.fillings(SQUARE, kinds.whole_sheet(SQUARE), 9)
        self.assertTrue(type(told) is tuple and all(type(filling) is tuple for filling in told))
        self.assertIs(type(fillings.the_filling(PUZZLE)), tuple)
        self.assertIs(type(fillings.filling_in(SQUARE, SHEET, ())), tuple)
        for function in (texts.kind_text, texts.puzzle_text, texts.sheet_text):
            parameters = [rows for told, rows in FUNCTIONS if told is function][0]
            self.assertIs(type(function(*good_values(parameters))), str)
        for told in (reasons.rank_of(SQUARE, SHEET, (1, 1)), hardness.hardness(PUZZLE), *ends.left_by(SQUARE, SHEET)):
            self.assertIs(type(told), int)
        for told in (reasons.least_lots(SQUARE, SHEET, (1, 1), 4), reasons.strikes_for(SQUARE, SHEET, 1),
                     reasons.reason_for(SQUARE, SHEET, (1, 1), 1), ends.end_by(SQUARE, SHEET, 1, (3,)),
                     ends.end_by(SQUARE, SHEET, 1, (3,))[0], ends.row_to_end(SQUARE, SHEET, 1),
                     ends.depths(SQUARE, SHEET, 1), ends.left_by(SQUARE, SHEET), ends.needed_lots(SQUARE, SHEET, ((0,),)),
                     ends.cover_for(SQUARE, SHEET, ()), ends.covers_for(SQUARE, SHEET, 0), hardness.row_up_to(PUZZLE, 1)):
            self.assertTrue(type(told) is tuple and told)
            self.assertTrue(all(type(one) in (tuple, int) for one in told))


if __name__ == "__main__":
    unittest.main()
