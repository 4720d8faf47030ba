"""Reasons: from which rules strikes follow, and the trees that show it."""

from onefilling.bits import sheet_bits, sheet_of, worth_bit
from onefilling.checks import check_kind, check_lot, check_most, check_sheet, check_strike
from onefilling.closing import following, reason_of
from onefilling.errors import InvalidRow
from onefilling.families import family_for, lot_of, lots_up_to, rules_of
from onefilling.forms import MOST_RULES
from onefilling.judge import Judge
from onefilling.kinds import alone
from onefilling.search import Search
from onefilling.study import Study
from onefilling.watch import Watch


def follows(kind, sheet, lot, strike):
    """Whether the strike follows from the lot: whether no filling in the sheet that meets its rules has it."""
    check_kind(kind)
    check_sheet(kind, sheet)
    check_lot(kind, lot)
    check_strike(sheet, strike)
    inner = alone(kind, sheet, strike[0], strike[1])
    return Search(kind).answer(sheet_bits(inner), rules_of(lot))[0] is None


def rank_of(kind, sheet, strike):
    """How many rules the least lot has from which the strike follows; None if it follows from none."""
    check_kind(kind)
    check_sheet(kind, sheet)
    check_strike(sheet, strike)
    rules = _least_rules(kind, sheet, strike, len(kind[3]))
    return None if rules is None else len(lot_of(rules))


def least_lots(kind, sheet, strike, most):
    """The ascending tuple of the strike's least lots that have up to MOST rules."""
    check_kind(kind)
    check_sheet(kind, sheet)
    check_strike(sheet, strike)
    check_most(most)
    watch = Watch(Study(kind), sheet_bits(sheet), family_for(kind, len(kind[3])))
    found = watch.least_lots(strike[0], strike[1], lots_up_to(kind, most))
    return tuple(sorted([lot for lot in [lot_of(rules) for rules in found] if len(lot) <= most]))


def strikes_for(kind, sheet, most):
    """The ascending tuple of the strikes that follow from lots of up to MOST rules."""
    check_kind(kind)
    check_sheet(kind, sheet)
    check_most(most)
    return tuple(following(Watch(Study(kind), sheet_bits(sheet), family_for(kind, most))))


def reason_for(kind, sheet, strike, most):
    """Any reason with a lot of as many rules as the strike's rank; None if this is above MOST or None."""
    check_kind(kind)
    check_sheet(kind, sheet)
    check_strike(sheet, strike)
    check_most(most)
    rules = _least_rules(kind, sheet, strike, most)
    if rules is None:
        return None
    return reason_of(Search(kind).keepers, sheet_bits(sheet), strike[0], strike[1], rules)


def is_reason(kind, sheet, value):
    """Whether the value, whatever it is, is a reason for the sheet."""
    check_kind(kind)
    check_sheet(kind, sheet)
    return Judge(kind).is_reason(sheet_bits(sheet), value, MOST_RULES)


def led(kind, sheet, row):
    """The sheet to which a row of reasons leads."""
    check_kind(kind)
    check_sheet(kind, sheet)
    if not isinstance(row, tuple):
        raise InvalidRow(None)
    judge = Judge(kind)
    behind = sheet_bits(sheet)
    for at, reason in enumerate(row):
        if not judge.is_reason(behind, reason, MOST_RULES):
            raise InvalidRow(at)
        behind[reason[1]] -= worth_bit(reason[2])
    return sheet_of(behind)


def _least_rules(kind, sheet, strike, most):
    watch = Watch(Study(kind), sheet_bits(sheet), family_for(kind, 0))
    for size in range(min(most, len(kind[3])) + 1):
        # Nothing follows from fewer rules, so what tells it now has just so many.
        watch.turn_to(family_for(kind, size))
        rules = watch.ground(strike[0], strike[1])
        if rules is not None:
            return rules
    return None
