"""Puzzles with one filling, and which of their givens are idle."""

from onefilling.bits import begin_bits, worth_bit


def one_filling(study, givens):
    """The one filling of the puzzle with these givens; None."""
    return study.the_one(begin_bits(study.kind, givens))


def filling_without(study, givens, given):
    """Any filling of the puzzle without this given that is unlike it there; None, so for a puzzle with one filling if
    the given is idle."""
    place, worth = given
    lots = begin_bits(study.kind, [other for other in givens if other != given])
    lots[place] -= worth_bit(worth)
    return study.filling_within(lots)


def idle_places(study, givens):
    """The places of the idle givens of a puzzle with one filling."""
    return tuple([given[0] for given in givens if filling_without(study, givens, given) is None])


def are_tight(study, givens):
    """Whether the puzzle with these givens has one filling, and none of them is idle."""
    if one_filling(study, givens) is None:
        return False
    return all(filling_without(study, givens, given) is not None for given in givens)
