"""Covers: fillings that meet a lot's rules, such that each worth of a sheet is in one of them."""

from onefilling.closing import is_closed_sheet
from onefilling.families import rules_of
from onefilling.forms import is_filling_form
from onefilling.holding import rule_holds

MOST_IN_COVER = 96


def cover_by(watch, lot):
    """A cover for the lot of fillings that the watch knows, if none of its sheet's strikes follows from the lot."""
    rules = rules_of(lot)
    missing = {strike: True for strike in watch.strikes()}
    cover = []
    for filling, met in watch.found:
        # One that adds nothing is left out, so there are no more fillings than worths.
        added = [strike for strike in enumerate(filling) if strike in missing] if not rules & ~met else []
        for strike in added:
            del missing[strike]
        if added:
            cover.append(filling)
    return tuple(cover)


def covers_by(watch):
    """The covers for all lots of the watch's family; None if a strike follows from one of them."""
    if not is_closed_sheet(watch):
        return None
    return tuple([cover_by(watch, lot) for lot in watch.family.lots])


def is_cover_for(kind, sheet, lot, value):
    """Whether the value is a cover of the sheet for the lot."""
    if not isinstance(value, tuple) or len(value) > MOST_IN_COVER:
        return False
    rules = [kind[3][index] for index in lot]
    covered = {}
    for filling in value:
        if not is_filling_form(kind, filling) or not _lies_in(filling, sheet):
            return False
        if not all(rule_holds(kind, rule, filling) for rule in rules):
            return False
        for spot in enumerate(filling):
            covered[spot] = True
    return len(covered) == sum(len(own) for own in sheet)


def _lies_in(filling, sheet):
    return all(worth in own for worth, own in zip(filling, sheet))
