"""Hardness: with how many rules at a time reasons come to a puzzle's filling."""

from onefilling.bits import sheet_bits
from onefilling.checks import check_most, check_puzzle
from onefilling.closing import close, row_of
from onefilling.ends import end
from onefilling.families import family_for
from onefilling.fillings import the_filling
from onefilling.kinds import begin
from onefilling.study import Study
from onefilling.watch import Watch


def hardness(puzzle):
    """The puzzle's hardness; None if it has not just one filling."""
    check_puzzle(puzzle)
    way = _way_to_filling(puzzle, len(puzzle[0][3]))
    return None if way is None else way[0]


def row_up_to(puzzle, most):
    """Any row of reasons with lots of up to MOST rules that leads to the puzzle's filling; None if there is none."""
    check_puzzle(puzzle)
    check_most(most)
    way = _way_to_filling(puzzle, most)
    return None if way is None else row_of(way[1].search.keepers, sheet_bits(begin(puzzle)), way[2])


def sheet_above(puzzle, most):
    """The end of the puzzle's begin sheet for MOST, if it has a lot of two worths or more; None."""
    check_puzzle(puzzle)
    check_most(most)
    left = end(puzzle[0], begin(puzzle), most)
    return left if any(len(lot) > 1 for lot in left) else None


def _way_to_filling(puzzle, most):
    """The hardness, the watch and the steps by which it came to the filling; None if it is above MOST, or None."""
    filling = the_filling(puzzle)
    if filling is None:
        return None
    kind = puzzle[0]
    watch = Watch(Study(kind), sheet_bits(begin(puzzle)), family_for(kind, 0))
    watch.keep(filling)
    steps = []
    for size in range(min(most, len(kind[3])) + 1):
        # The end for more rules is that of the end for fewer.
        watch.turn_to(family_for(kind, size))
        steps.extend(close(watch))
        if len(watch.strikes()) == len(watch.lots):
            return size, watch, steps
    return None
