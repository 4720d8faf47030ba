"""Papers for the checker, or parts of them: trees for all rules, and rows of reasons."""

from onefilling.bits import begin_bits, lowest_worth, parts_of, worth_bit
from onefilling.closing import next_step, row_of
from onefilling.grower import grown
from onefilling.judge import alone_at
from onefilling.watch import Watch


def tree_by(study, lots):
    """A tree for all rules, and lots in which no filling fills the kind."""
    return grown(study.search.keepers, lots, study.search.answer(lots, study.everything)[1])


def trees_for_one(study, givens, filling):
    """The trees that show that no other filling has these givens."""
    lots = begin_bits(study.kind, givens)
    told = []
    for place, lot in enumerate(lots):
        others = parts_of(lot & ~worth_bit(filling[place]))
        told.append(tuple([tree_by(study, alone_at(lots, place, part)) for part in others]))
    return tuple(told)


def row_without(study, lots, place, taken, grade):
    """A row of reasons with lots of up to GRADE rules, from the lots on, that leads to none of these worths there."""
    watch = Watch(study, list(lots), study.family_by(0))
    steps = []
    for most in range(grade + 1):
        # Behind what few rules tell, trees for many rules are smaller.
        watch.turn_to(study.family_by(most))
        step = wanted_step(watch, place, taken)
        while step is not None:
            steps.append(step)
            watch.make(step[0], step[1])
            step = wanted_step(watch, place, taken)
    return row_of(study.search.keepers, lots, steps)


def wanted_step(watch, place, taken):
    """Any strike that follows, one of these worths there if one does; None if they are gone, or if none follows."""
    if not watch.lots[place] & taken:
        return None
    for part in parts_of(watch.lots[place] & taken):
        rules = watch.ground(place, lowest_worth(part))
        if rules is not None:
            return place, lowest_worth(part), rules
    return next_step(watch)
