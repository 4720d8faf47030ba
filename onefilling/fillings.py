"""Fillings that fill a kind, or make a lot of its rules hold, and trees that show that there is none."""

from onefilling.bits import sheet_bits
from onefilling.checks import check_filling, check_kind, check_lot, check_number, check_puzzle, check_sheet
from onefilling.families import all_rules, rules_of
from onefilling.grower import grown
from onefilling.kinds import begin
from onefilling.search import Search
from onefilling.trees import is_tree_for

MOST_FILLINGS = 1000


def filling_in(kind, sheet, lot):
    """Any filling in the sheet that makes the lot's rules hold; None."""
    _check_search(kind, sheet, lot)
    return Search(kind).answer(sheet_bits(sheet), rules_of(lot))[0]


def tree_for(kind, sheet, lot):
    """Any tree for the sheet and the lot; None."""
    _check_search(kind, sheet, lot)
    search = Search(kind)
    lots = sheet_bits(sheet)
    filling, rules = search.answer(lots, rules_of(lot))
    return grown(search.keepers, lots, rules) if filling is None else None


def is_tree(kind, sheet, lot, value):
    """Whether the value, whatever it is, is a tree for the sheet and the lot."""
    _check_search(kind, sheet, lot)
    return is_tree_for(kind, sheet, lot, value)


def fillings(kind, sheet, most):
    """The ascending tuple of the first MOST fillings in the sheet that fill the kind."""
    check_kind(kind)
    check_sheet(kind, sheet)
    check_number(most, 0, MOST_FILLINGS)
    return _first_fillings(kind, sheet, most)


def the_filling(puzzle):
    """The puzzle's filling, if there is just one; None."""
    check_puzzle(puzzle)
    found = _first_fillings(puzzle[0], begin(puzzle), 2)
    return found[0] if len(found) == 1 else None


def other_filling(puzzle, filling):
    """Any filling of the puzzle other than this one; None."""
    check_puzzle(puzzle)
    check_filling(puzzle[0], filling)
    for found in _first_fillings(puzzle[0], begin(puzzle), 2):
        if found != filling:
            return found
    return None


def _check_search(kind, sheet, lot):
    check_kind(kind)
    check_sheet(kind, sheet)
    check_lot(kind, lot)


def _first_fillings(kind, sheet, most):
    return tuple(Search(kind).first_fillings(sheet_bits(sheet), all_rules(kind), most))
