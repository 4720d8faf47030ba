"""The way of a watched sheet to its end: strikes that follow, one after the other, and the reasons for them."""

from onefilling.bits import lowest_worth, worth_bit
from onefilling.families import lot_of
from onefilling.grower import grown
from onefilling.keepers import lots_at


def following(watch):
    """All strikes that follow, ascending."""
    strikes = watch.strikes()
    return [(place, worth) for place, worth in strikes if watch.ground(place, worth) is not None]


def is_closed_sheet(watch):
    """Whether no strike follows."""
    strikes = watch.strikes()
    return all(watch.ground(place, worth) is None for place, worth in strikes)


def close(watch):
    """Make strikes until none follows: of each, in order, its place, its worth, rules from which it follows."""
    steps = []
    step = next_step(watch)
    while step is not None:
        steps.append(step)
        watch.make(step[0], step[1])
        step = next_step(watch)
    return steps


def next_step(watch):
    """Of any strike that follows its place, its worth, rules from which it follows; None if none follows."""
    # What one rule tells alone is soon found, and makes what is left easier.
    step = _easy_step(watch)
    if step is not None:
        return step
    strikes = watch.strikes()
    for place, worth in strikes:
        rules = watch.ground(place, worth)
        if rules is not None:
            return place, worth, rules
    return None


def _easy_step(watch):
    if 0 in watch.lots:
        return _step_beside_void(watch)
    for index, keeper in enumerate(watch.search.keepers):
        if not (watch.family.rules >> index) & 1:
            continue
        here = lots_at(watch.lots, keeper.places)
        for place, lot, left in zip(keeper.places, here, keeper.kept(here)):
            if left != lot:
                return place, lowest_worth(lot & ~left), 1 << index
    return None


def _step_beside_void(watch):
    strikes = watch.strikes()
    # All of them follow without any rule, if there is a lot to follow from.
    if not strikes or not watch.family.lots:
        return None
    place, worth = strikes[0]
    return place, worth, 0


def row_of(keepers, lots, steps):
    """The row of reasons for the steps, from the sheet with these lots on."""
    behind = list(lots)
    row = []
    for place, worth, rules in steps:
        row.append(reason_of(keepers, behind, place, worth, rules))
        behind[place] -= worth_bit(worth)
    return tuple(row)


def reason_of(keepers, lots, place, worth, rules):
    """The reason for a strike that follows from these rules."""
    inner = list(lots)
    inner[place] = worth_bit(worth)
    return lot_of(rules), place, worth, grown(keepers, inner, rules)
