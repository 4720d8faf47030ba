"""Ends: what is left of a sheet when all strikes that follow are made, in whatever order, and covers that show it."""

from onefilling.bits import sheet_bits, sheet_of
from onefilling.checks import check_kind, check_lot, check_lots, check_most, check_order, check_sheet
from onefilling.closing import close, following, is_closed_sheet, row_of
from onefilling.covers import cover_by, covers_by, is_cover_for
from onefilling.families import Family, family_for, family_of
from onefilling.study import Study
from onefilling.watch import Watch


def end(kind, sheet, most):
    """The end of the sheet for MOST."""
    watch = _watch_for(kind, sheet, most)
    close(watch)
    return sheet_of(watch.lots)


def end_for(kind, sheet, lots):
    """The end of the sheet for these lots of rules."""
    _check_lots_of(kind, sheet, lots)
    return _end_and_lots(kind, sheet, lots)[0]


def end_by(kind, sheet, most, order):
    """A pair: the strikes that are made when ORDER tells which one of those that follow is next, and the end."""
    check_kind(kind)
    check_sheet(kind, sheet)
    check_most(most)
    check_order(order)
    watch = Watch(Study(kind), sheet_bits(sheet), family_for(kind, most))
    made = []
    ready = following(watch)
    while ready:
        at = order[len(made)] % len(ready) if len(made) < len(order) else 0
        made.append(ready[at])
        watch.make(ready[at][0], ready[at][1])
        ready = following(watch)
    return tuple(made), sheet_of(watch.lots)


def row_to_end(kind, sheet, most):
    """Any row of reasons with lots of up to MOST rules that leads to the end for MOST."""
    watch = _watch_for(kind, sheet, most)
    steps = []
    # Behind what few rules tell, trees for many rules are smaller.
    for size in (min(1, most), min(2, most), most):
        watch.turn_to(family_for(kind, size))
        steps.extend(close(watch))
    return row_of(watch.search.keepers, sheet_bits(sheet), steps)


def depths(kind, sheet, most):
    """The ascending tuple of (PLACE, WORTH, DEPTH) of the strikes that rounds for MOST make."""
    watch = _watch_for(kind, sheet, most)
    told = []
    depth = 1
    ready = following(watch)
    while ready:
        for place, worth in ready:
            told.append((place, worth, depth))
            watch.make(place, worth)
        depth += 1
        ready = following(watch)
    return tuple(sorted(told))


def left_by(kind, sheet):
    """For each number from 0 to how many rules there are: how many worths the end's lots have together."""
    watch = _watch_for(kind, sheet, 0)
    left = []
    for size in range(len(kind[3]) + 1):
        # The end for more rules is that of the end for fewer.
        watch.turn_to(family_for(kind, size))
        close(watch)
        left.append(len(watch.strikes()))
    return tuple(left)


def needed_lots(kind, sheet, lots):
    """The ascending tuple of those of the lots without which the end is another one."""
    _check_lots_of(kind, sheet, lots)
    whole, used = _end_and_lots(kind, sheet, lots)
    needed = []
    # The strikes that led to the end have made no use of the others.
    for lot in used:
        rest = [other for other in lots if other != lot]
        if _end_and_lots(kind, sheet, rest)[0] != whole:
            needed.append(lot)
    return tuple(needed)


def is_closed(kind, sheet, most):
    """Whether no strike follows from a lot of up to MOST rules."""
    return is_closed_sheet(_watch_for(kind, sheet, most))


def cover_for(kind, sheet, lot):
    """Any cover of the sheet for the lot; None if there is none."""
    check_kind(kind)
    check_sheet(kind, sheet)
    check_lot(kind, lot)
    watch = Watch(Study(kind), sheet_bits(sheet), Family([lot]))
    return cover_by(watch, lot) if is_closed_sheet(watch) else None


def is_cover(kind, sheet, lot, value):
    """Whether the value, whatever it is, is a cover of the sheet for the lot."""
    check_kind(kind)
    check_sheet(kind, sheet)
    check_lot(kind, lot)
    return is_cover_for(kind, sheet, lot, value)


def covers_for(kind, sheet, most):
    """The tuple of any covers, one for each lot that is asked of for MOST; None if the sheet is not closed for it."""
    return covers_by(_watch_for(kind, sheet, most))


def _watch_for(kind, sheet, most):
    check_kind(kind)
    check_sheet(kind, sheet)
    check_most(most)
    return Watch(Study(kind), sheet_bits(sheet), family_for(kind, most))


def _check_lots_of(kind, sheet, lots):
    check_kind(kind)
    check_sheet(kind, sheet)
    check_lots(kind, lots)


def _end_and_lots(kind, sheet, lots):
    """The end, and the lots, ascending, from which strikes were made to come to it."""
    watch = Watch(Study(kind), sheet_bits(sheet), family_of(lots))
    used = [watch.family.holder(rules) for place, worth, rules in close(watch)]
    return sheet_of(watch.lots), sorted(set(used))
