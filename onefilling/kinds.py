"""Kinds, their rules, sheets and fillings, and puzzles: what is one, what holds, what is barred."""

from onefilling.bits import sheet_bits
from onefilling.checks import check_filling, check_index, check_kind, check_number, check_place, check_puzzle
from onefilling.checks import check_sheet, check_worth
from onefilling.forms import is_filling_form, is_kind_form, is_puzzle_form, is_rule_form, is_sheet_form, places_in
from onefilling.holding import fills_all, rule_holds
from onefilling.keepers import bars, keeper_of


def is_rule(places, worths, value):
    """Whether the value, whatever it is, is a rule where there are so many places and worths."""
    check_number(places, 1, 16)
    check_number(worths, 2, 6)
    return is_rule_form(places, worths, value)


def is_kind(value):
    """Whether the value, whatever it is, is a kind."""
    return is_kind_form(value)


def is_puzzle(value):
    """Whether the value, whatever it is, is a puzzle."""
    return is_puzzle_form(value)


def is_sheet(kind, value):
    """Whether the value, whatever it is, is a sheet of the kind."""
    check_kind(kind)
    return is_sheet_form(kind, value)


def is_filling(kind, value):
    """Whether the value, whatever it is, is a filling of the kind."""
    check_kind(kind)
    return is_filling_form(kind, value)


def holds(kind, index, filling):
    """Whether the rule with this index holds for the filling."""
    check_kind(kind)
    check_index(kind, index)
    check_filling(kind, filling)
    return rule_holds(kind, kind[3][index], filling)


def fills(kind, filling):
    """Whether all rules hold for the filling."""
    check_kind(kind)
    check_filling(kind, filling)
    return fills_all(kind, filling)


def lies_in(kind, filling, sheet):
    """Whether each worth of the filling is in its place's lot."""
    check_kind(kind)
    check_filling(kind, filling)
    check_sheet(kind, sheet)
    return all(worth in lot for worth, lot in zip(filling, sheet))


def is_within(kind, sheet, other):
    """Whether each lot of the sheet has only worths of the other one's."""
    check_kind(kind)
    check_sheet(kind, sheet)
    check_sheet(kind, other)
    return all(bits & ~others == 0 for bits, others in zip(sheet_bits(sheet), sheet_bits(other)))


def is_barred(kind, index, sheet):
    """Whether no filling in the sheet makes the rule with this index hold."""
    check_kind(kind)
    check_index(kind, index)
    check_sheet(kind, sheet)
    return bars(keeper_of(kind, kind[3][index]), sheet_bits(sheet))


def whole_sheet(kind):
    """The sheet with all worths everywhere."""
    check_kind(kind)
    return (_all_worths(kind),) * places_in(kind)


def begin(puzzle):
    """The sheet with the givens alone where they are told, all worths elsewhere."""
    check_puzzle(puzzle)
    kind, givens = puzzle
    lots = [_all_worths(kind)] * places_in(kind)
    for place, worth in givens:
        lots[place] = (worth,)
    return tuple(lots)


def alone(kind, sheet, place, worth):
    """The sheet with this worth alone at the place, whether it was in its lot or not."""
    _check_spot(kind, sheet, place, worth)
    return _with_lot(sheet, place, (worth,))


def struck(kind, sheet, place, worth):
    """The sheet without this worth at the place."""
    _check_spot(kind, sheet, place, worth)
    return _with_lot(sheet, place, tuple([other for other in sheet[place] if other != worth]))


def _check_spot(kind, sheet, place, worth):
    check_kind(kind)
    check_sheet(kind, sheet)
    check_place(kind, place)
    check_worth(kind, worth)


def _all_worths(kind):
    return tuple(range(1, kind[2] + 1))


def _with_lot(sheet, place, lot):
    return sheet[:place] + (lot,) + sheet[place + 1:]
