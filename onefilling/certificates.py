"""Certificates: claims and papers for them that the checker accepts."""

from onefilling.bits import begin_bits
from onefilling.checks import check_full_filling, check_kind, check_lot, check_most, check_moves, check_puzzle
from onefilling.checks import check_sheet, check_strike, check_turn
from onefilling.ends import covers_for, end, row_to_end
from onefilling.errors import NotOne
from onefilling.families import lot_of
from onefilling.fillings import filling_in, tree_for
from onefilling.gaptrees import GapTrees, closed_beside
from onefilling.hardness import hardness, row_up_to, sheet_above
from onefilling.judge import is_settled
from onefilling.kinds import alone, begin
from onefilling.ladder import Playing
from onefilling.moves import is_undo, lots_at_hand, taken_by
from onefilling.papers import row_without, tree_by, trees_for_one
from onefilling.reasons import reason_for
from onefilling.singles import filling_without, idle_places, one_filling
from onefilling.study import Study
from onefilling.telling import Telling
from onefilling.turning import turned_by, turned_givens


def certify_fillings(puzzle):
    """The claim that the puzzle has no filling, one, or two, and its paper."""
    check_puzzle(puzzle)
    study = Study(puzzle[0])
    lots = begin_bits(puzzle[0], puzzle[1])
    found = study.search.first_fillings(lots, study.everything, 2)
    if len(found) == 0:
        return ("none", puzzle), tree_by(study, lots)
    if len(found) == 1:
        return ("one", puzzle, found[0]), trees_for_one(study, puzzle[1], found[0])
    return ("two", puzzle), tuple(found)


def certify_follows(kind, sheet, lot, strike):
    """The claim that the strike follows from the lot, or that it doesn't, and its paper."""
    check_kind(kind)
    check_sheet(kind, sheet)
    check_lot(kind, lot)
    check_strike(sheet, strike)
    place, worth = strike
    inner = alone(kind, sheet, place, worth)
    filling = filling_in(kind, inner, lot)
    if filling is None:
        return ("follows", kind, sheet, lot, place, worth), tree_for(kind, inner, lot)
    return ("follows not", kind, sheet, lot, place, worth), filling


def certify_least(kind, sheet, strike, most):
    """The claim of a least lot with as many rules as the strike's rank, and its paper; None if this is above MOST."""
    reason = reason_for(kind, sheet, strike, most)
    if reason is None:
        return None
    lot, place, worth, tree = reason
    inner = alone(kind, sheet, place, worth)
    rests = [tuple([other for other in lot if other != index]) for index in lot]
    others = tuple([filling_in(kind, inner, rest) for rest in rests])
    return ("least lot", kind, sheet, lot, place, worth), (tree, others)


def certify_end(kind, sheet, most):
    """The claim of the sheet's end for MOST, and its paper."""
    row = row_to_end(kind, sheet, most)
    last = end(kind, sheet, most)
    return ("end", kind, sheet, most, last), (row, covers_for(kind, last, most))


def certify_hard(puzzle, most):
    """The claim that the puzzle is hard up to MOST, or harder, and its paper; None if neither is so."""
    row = row_up_to(puzzle, most)
    if row is not None:
        return ("hard up to", puzzle, most), row
    above = sheet_above(puzzle, most)
    return None if above is None else (("harder than", puzzle, most), (above, covers_for(puzzle[0], above, most)))


def certify_hardness(puzzle):
    """The claim of the puzzle's hardness, and its paper."""
    most = hardness(puzzle)
    if most is None:
        raise NotOne()
    harder = None if most == 0 else certify_hard(puzzle, most - 1)[1]
    return ("hardness", puzzle, most), (row_up_to(puzzle, most), harder)


def certify_tight(puzzle):
    """The claim that the puzzle is tight, or that its first idle given is so, and its paper."""
    check_puzzle(puzzle)
    kind, givens = puzzle
    study = Study(kind)
    filling = one_filling(study, givens)
    if filling is None:
        raise NotOne()
    idle = idle_places(study, givens)
    if idle:
        rest = tuple([given for given in givens if given[0] != idle[0]])
        return ("idle", puzzle, idle[0]), (filling, trees_for_one(study, rest, filling))
    others = tuple([filling_without(study, givens, given) for given in givens])
    return ("tight", puzzle), (filling, trees_for_one(study, givens, filling), others)


def certify_gap(kind, filling, most):
    """The claim of the filling's first least gap, and its paper; None if there is no gap."""
    telling = _telling_of(kind, filling, most)
    gaps = sorted([lot_of(gap) for gap in telling.gaps_and_tight_lots()[0]])
    if not gaps:
        return None
    sheet, covers = closed_beside(telling, sum(1 << place for place in gaps[0]))
    return ("gap", kind, filling, most, gaps[0]), (sheet, covers)


def certify_fewest(kind, filling, most):
    """The claim of how few places tell the filling by MOST, and its paper."""
    telling = _telling_of(kind, filling, most)
    fewest, gaps = telling.fewest_and_gaps()
    places = lot_of(fewest)
    row = row_to_end(kind, begin((kind, tuple([(place, filling[place]) for place in places]))), most)
    tree = GapTrees(telling, gaps, len(places)).tree(0) if places else ()
    return ("fewest", kind, filling, most, len(places)), (places, row, tree)


def certify_game(puzzle, moves):
    """The claim that the game is reasoned up to its greatest grade, and its paper.

    None if it has a grade that is None, or does not fill the puzzle in.
    """
    check_puzzle(puzzle)
    check_moves(puzzle, moves)
    at_hand = lots_at_hand(begin_bits(puzzle[0], puzzle[1]), moves)
    if not is_settled(at_hand[-1]):
        return None
    playing = Playing(puzzle)
    for move in moves:
        playing.make(move)
    if None in playing.grades:
        return None
    study = Study(puzzle[0])
    rows = [_row_for(study, lots, move, grade) for lots, move, grade in zip(at_hand, moves, playing.grades)]
    return ("reasoned up to", puzzle, moves, max(playing.grades, default=0)), tuple(rows)


def certify_turned(puzzle, turn):
    """The claim that some turn leads the puzzle to this one, and its paper."""
    check_puzzle(puzzle)
    kind, givens = puzzle
    check_turn(kind, turn)
    return ("turned", puzzle, (turned_by(kind, turn), turned_givens(kind, turn, givens))), turn


def _telling_of(kind, filling, most):
    check_kind(kind)
    check_full_filling(kind, filling)
    check_most(most)
    return Telling(kind, filling, most)


def _row_for(study, lots, move, grade):
    """A row of reasons that shows that a move takes away nothing of the end for its grade; () for an undo."""
    return () if is_undo(move) else row_without(study, lots, move[1], taken_by(lots, move), grade)
