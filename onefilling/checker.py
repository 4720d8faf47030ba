"""The checker: whether a paper shows that a claim is so. Both may be any values; nothing that they say is trusted."""

from onefilling.bits import begin_bits, sheet_bits, worth_bit
from onefilling.families import rules_of
from onefilling.forms import MOST_RULES, is_ascending, is_from_0, is_kind_form, is_lot_of_rules, is_puzzle_form
from onefilling.forms import is_sheet_form, is_strike_form, is_whole, places_in
from onefilling.gaptrees import is_tree_of_gaps
from onefilling.judge import Judge, alone_at, filling_of, is_settled, loose_places
from onefilling.moves import is_undo, make_in_row, taken_by, wrong_move
from onefilling.turning import is_same_kind, is_turn_form, turned_by, turned_givens


def accepts(claim, paper):
    """Whether the claim is one for the checker, and the paper is one for it."""
    if not isinstance(claim, tuple) or not claim or not isinstance(claim[0], str) or claim[0] not in CLAIMS:
        return False
    told = CLAIMS[claim[0]]
    return len(claim) == LENGTHS[claim[0]] and told(claim, paper)


def _is_nothing(paper):
    """Whether the paper is ()."""
    return isinstance(paper, tuple) and len(paper) == 0


def _is_tuple_of(many, value):
    """Whether the value is a tuple of so many elements."""
    return isinstance(value, tuple) and len(value) == many


def _is_full(kind, value):
    """Whether the value is a filling that fills the kind."""
    judge = Judge(kind)
    return judge.is_filling_in(begin_bits(kind, ()), judge.everything, value)


def _is_most(value):
    """Whether the value is a number of rules at a time."""
    return is_whole(value, 0, MOST_RULES)


def _without_given(givens, place):
    """The givens without that at the place."""
    return tuple([given for given in givens if given[0] != place])


def _fills(claim, paper):
    _, kind, filling = claim
    return is_kind_form(kind) and _is_full(kind, filling) and _is_nothing(paper)


def _none(claim, paper):
    _, puzzle = claim
    return is_puzzle_form(puzzle) and Judge(puzzle[0]).is_tree_for_all(begin_bits(puzzle[0], puzzle[1]), paper)


def _one(claim, paper):
    _, puzzle, filling = claim
    return is_puzzle_form(puzzle) and _is_the_one(Judge(puzzle[0]), puzzle[1], filling, paper)


def _is_the_one(judge, givens, filling, trees):
    """Whether the filling is the one with these givens, as the trees show."""
    lots = begin_bits(judge.kind, givens)
    if not judge.is_filling_in(lots, judge.everything, filling):
        return False
    return judge.are_trees_for_one(givens, filling, trees)


def _two(claim, paper):
    _, puzzle = claim
    if not is_puzzle_form(puzzle) or not _is_tuple_of(2, paper):
        return False
    judge = Judge(puzzle[0])
    lots = begin_bits(puzzle[0], puzzle[1])
    return all(judge.is_filling_in(lots, judge.everything, value) for value in paper) and paper[0] != paper[1]


def _is_strike_claim(claim):
    """Whether the claim tells a kind, a sheet, a lot of rules, and a strike."""
    _, kind, sheet, lot, place, worth = claim
    if not is_kind_form(kind) or not is_sheet_form(kind, sheet):
        return False
    return is_lot_of_rules(kind, lot) and is_strike_form(sheet, (place, worth))


def _lots_with_strike(claim):
    """The lots of the claim's sheet, with the worth of its strike alone at the place."""
    return alone_at(sheet_bits(claim[2]), claim[4], worth_bit(claim[5]))


def _follows(claim, paper):
    return _is_strike_claim(claim) and Judge(claim[1]).is_tree(_lots_with_strike(claim), claim[3], paper)


def _follows_not(claim, paper):
    if not _is_strike_claim(claim):
        return False
    return Judge(claim[1]).is_filling_in(_lots_with_strike(claim), rules_of(claim[3]), paper)


def _least_lot(claim, paper):
    if not _is_strike_claim(claim) or not _is_tuple_of(2, paper) or not _is_tuple_of(len(claim[3]), paper[1]):
        return False
    judge = Judge(claim[1])
    lots = _lots_with_strike(claim)
    rules = rules_of(claim[3])
    for index, filling in zip(claim[3], paper[1]):
        if not judge.is_filling_in(lots, rules & ~(1 << index), filling):
            return False
    return judge.is_tree(lots, claim[3], paper[0])


def _end(claim, paper):
    _, kind, sheet, most, last = claim
    if not is_kind_form(kind) or not is_sheet_form(kind, sheet) or not _is_most(most) or not is_sheet_form(kind, last):
        return False
    if not _is_tuple_of(2, paper):
        return False
    judge = Judge(kind)
    lots = sheet_bits(last)
    return judge.led(sheet_bits(sheet), paper[0], most) == lots and judge.are_covers(lots, most, paper[1])


def _hard_up_to(claim, paper):
    _, puzzle, most = claim
    return is_puzzle_form(puzzle) and _is_most(most) and _is_row_up_to(puzzle, most, paper)


def _is_row_up_to(puzzle, most, row):
    """Whether the row leads, by up to MOST rules at a time, to a filling that fills the kind."""
    judge = Judge(puzzle[0])
    lots = judge.led(begin_bits(puzzle[0], puzzle[1]), row, most)
    return lots is not None and is_settled(lots) and judge.met_by(filling_of(lots)) == judge.everything


def _harder_than(claim, paper):
    _, puzzle, most = claim
    return is_puzzle_form(puzzle) and _is_most(most) and _is_sheet_above(puzzle, most, paper)


def _is_sheet_above(puzzle, most, paper):
    """Whether the paper is a sheet within the begin sheet, with a lot of two worths or more, and its covers."""
    kind = puzzle[0]
    if not _is_tuple_of(2, paper) or not is_sheet_form(kind, paper[0]):
        return False
    lots = sheet_bits(paper[0])
    if any(lot & ~outer for lot, outer in zip(lots, begin_bits(kind, puzzle[1]))) or not loose_places(lots):
        return False
    return Judge(kind).are_covers(lots, most, paper[1])


def _hardness(claim, paper):
    _, puzzle, most = claim
    if not is_puzzle_form(puzzle) or not _is_most(most) or not _is_tuple_of(2, paper):
        return False
    if not _is_row_up_to(puzzle, most, paper[0]):
        return False
    return paper[1] is None if most == 0 else _is_sheet_above(puzzle, most - 1, paper[1])


def _tight(claim, paper):
    _, puzzle = claim
    if not is_puzzle_form(puzzle) or not _is_tuple_of(3, paper) or not _is_tuple_of(len(puzzle[1]), paper[2]):
        return False
    kind, givens = puzzle
    judge = Judge(kind)
    for given, filling in zip(givens, paper[2]):
        lots = begin_bits(kind, _without_given(givens, given[0]))
        if not judge.is_filling_in(lots, judge.everything, filling) or filling[given[0]] == given[1]:
            return False
    return _is_the_one(judge, givens, paper[0], paper[1])


def _idle(claim, paper):
    _, puzzle, place = claim
    if not is_puzzle_form(puzzle) or not is_whole(place, 0, places_in(puzzle[0]) - 1) or not _is_tuple_of(2, paper):
        return False
    kind, givens = puzzle
    worths = [given[1] for given in givens if given[0] == place]
    if not worths or not _is_the_one(Judge(kind), _without_given(givens, place), paper[0], paper[1]):
        return False
    return paper[0][place] == worths[0]


def _gap(claim, paper):
    _, kind, filling, most, places = claim
    if not is_kind_form(kind) or not _is_full(kind, filling) or not _is_most(most):
        return False
    if not is_ascending(places, 0, places_in(kind) - 1) or not places:
        return False
    if not _is_tuple_of(2, paper) or not is_sheet_form(kind, paper[0]):
        return False
    judge = Judge(kind)
    lots = sheet_bits(paper[0])
    if not judge.is_filling_in(lots, 0, filling) or loose_places(lots) != places:
        return False
    return judge.are_covers(lots, most, paper[1])


def _fewest(claim, paper):
    _, kind, filling, most, many = claim
    if not is_kind_form(kind) or not _is_full(kind, filling) or not _is_most(most) or not is_from_0(many):
        return False
    if not _is_tuple_of(3, paper) or not is_ascending(paper[0], 0, places_in(kind) - 1) or len(paper[0]) != many:
        return False
    judge = Judge(kind)
    lots = begin_bits(kind, [(place, filling[place]) for place in paper[0]])
    if not judge.is_settled_row(lots, paper[1], most):
        return False
    return _is_nothing(paper[2]) if many == 0 else is_tree_of_gaps(judge, filling, most, many, (), paper[2])


def _reasoned(claim, paper):
    _, puzzle, moves, most = claim
    if not is_puzzle_form(puzzle) or not isinstance(moves, tuple) or not _is_most(most):
        return False
    lots = begin_bits(puzzle[0], puzzle[1])
    if wrong_move(lots, moves) is not None or not _is_tuple_of(len(moves), paper):
        return False
    judge = Judge(puzzle[0])
    row = [lots]
    for move, reasons in zip(moves, paper):
        if not _is_reasoned(judge, row[-1], move, most, reasons):
            return False
        make_in_row(row, move)
    return is_settled(row[-1])


def _is_reasoned(judge, lots, move, most, reasons):
    """Whether the reasons show that what the move takes away at the sheet at hand is none of its end's worths."""
    if is_undo(move):
        return _is_nothing(reasons)
    left = judge.led(lots, reasons, most)
    return left is not None and left[move[1]] & taken_by(lots, move) == 0


def _turned(claim, paper):
    _, puzzle, other = claim
    if not is_puzzle_form(puzzle) or not is_puzzle_form(other) or not is_turn_form(puzzle[0], paper):
        return False
    kind, givens = puzzle
    return is_same_kind(turned_by(kind, paper), other[0]) and turned_givens(kind, paper, givens) == other[1]


# How many elements a claim has, and what tells whether a paper is one for it.
LENGTHS = {
    "fills": 3, "none": 2, "one": 3, "two": 2, "follows": 6, "follows not": 6, "least lot": 6, "end": 5,
    "hard up to": 3, "harder than": 3, "hardness": 3, "tight": 2, "idle": 3, "gap": 5, "fewest": 5,
    "reasoned up to": 4, "turned": 3,
}
CLAIMS = {
    "fills": _fills,
    "none": _none,
    "one": _one,
    "two": _two,
    "follows": _follows,
    "follows not": _follows_not,
    "least lot": _least_lot,
    "end": _end,
    "hard up to": _hard_up_to,
    "harder than": _harder_than,
    "hardness": _hardness,
    "tight": _tight,
    "idle": _idle,
    "gap": _gap,
    "fewest": _fewest,
    "reasoned up to": _reasoned,
    "turned": _turned,
}
