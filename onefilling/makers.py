"""Makers of puzzles: which lots of places tell a filling, its gaps, and which givens are idle."""

from onefilling.checks import check_full_filling, check_kind, check_most, check_places, check_places_in_order
from onefilling.checks import check_puzzle
from onefilling.errors import NotOne
from onefilling.families import lot_of, rules_of
from onefilling.singles import are_tight, idle_places, one_filling
from onefilling.study import Study
from onefilling.telling import Telling


def puzzle_from(kind, filling, places):
    """The puzzle with the filling's worths at these places as givens."""
    check_kind(kind)
    check_full_filling(kind, filling)
    check_places(kind, places)
    return kind, tuple([(place, filling[place]) for place in places])


def is_told(kind, filling, most, places):
    """Whether these places tell the filling by MOST."""
    _check_telling(kind, filling, most)
    check_places(kind, places)
    return Telling(kind, filling, most).loose_at(rules_of(places)) == 0


def gaps(kind, filling, most):
    """The ascending tuple of all least gaps of the filling for MOST."""
    _check_telling(kind, filling, most)
    return _ascending(Telling(kind, filling, most).gaps_and_tight_lots()[0])


def tight_lots(kind, filling, most):
    """The ascending tuple of all tight lots for the filling and MOST."""
    _check_telling(kind, filling, most)
    return _ascending(Telling(kind, filling, most).gaps_and_tight_lots()[1])


def fewest(kind, filling, most):
    """The least number of places that tell the filling by MOST."""
    _check_telling(kind, filling, most)
    return len(lot_of(Telling(kind, filling, most).fewest_and_gaps()[0]))


def made(kind, filling, most, order):
    """The tight lot, ascending, that is left when one place after the other is left out, as ORDER has them."""
    _check_telling(kind, filling, most)
    check_places_in_order(kind, order)
    return lot_of(Telling(kind, filling, most).made_by(order))


def idle(puzzle):
    """The ascending tuple of the places of the idle givens of a puzzle with one filling."""
    check_puzzle(puzzle)
    study = Study(puzzle[0])
    if one_filling(study, puzzle[1]) is None:
        raise NotOne()
    return idle_places(study, puzzle[1])


def is_tight(puzzle):
    """Whether the puzzle has one filling, and no given of it is idle."""
    check_puzzle(puzzle)
    return are_tight(Study(puzzle[0]), puzzle[1])


def _check_telling(kind, filling, most):
    check_kind(kind)
    check_full_filling(kind, filling)
    check_most(most)


def _ascending(numbers):
    return tuple(sorted([lot_of(number) for number in numbers]))
