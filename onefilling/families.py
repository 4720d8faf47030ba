"""Lots of rules as numbers, rule INDEX being the bit INDEX, and families: the lots from which strikes are to follow."""

from itertools import combinations

from onefilling.bits import parts_of


def rules_of(lot):
    """The number of a lot of rules."""
    return sum(1 << index for index in lot)


def lot_of(rules):
    """The lot of rules with this number."""
    return tuple([index for index in range(rules.bit_length()) if (rules >> index) & 1])


def all_rules(kind):
    """The number of the lot of all rules of the kind."""
    return (1 << len(kind[3])) - 1


class Family:
    """Lots of rules; several of them are one number, too, with a bit for each."""

    def __init__(self, lots):
        self.lots = lots
        self.numbers = [rules_of(lot) for lot in lots]
        self.everyone = (1 << len(lots)) - 1
        self.rules = 0
        for number in self.numbers:
            self.rules |= number
        self.inside = {}
        self.holders = {}

    def within(self, rules):
        """The lots that have no other rules than these."""
        if rules not in self.inside:
            self.inside[rules] = sum(1 << at for at, number in enumerate(self.numbers) if not number & ~rules)
        return self.inside[rules]

    def holder(self, rules):
        """The first lot that has all of these rules; None."""
        if rules not in self.holders:
            having = [lot for lot, number in zip(self.lots, self.numbers) if not rules & ~number]
            self.holders[rules] = having[0] if having else None
        return self.holders[rules]


def lots_of_size(many, size):
    """All lots of just so many of MANY rules, ascending."""
    return list(combinations(range(many), size))


def lots_up_to(kind, most):
    """All lots of up to MOST rules of the kind, those of fewer rules first."""
    many = len(kind[3])
    return [lot for size in range(min(most, many) + 1) for lot in lots_of_size(many, size)]


def family_for(kind, most):
    """All lots of just MOST rules of the kind, of all rules if there are fewer."""
    many = len(kind[3])
    return Family(lots_of_size(many, min(most, many)))


def family_of(lots):
    """Those of the lots that are within no other one: nothing more follows from the others."""
    inside = {}
    greatest = []
    for lot in sorted(lots, key=len, reverse=True):
        if rules_of(lot) not in inside:
            greatest.append(lot)
            _mark(rules_of(lot), inside)
    return Family(sorted(greatest))


def _mark(rules, inside):
    """Mark these rules, and each part of them."""
    if rules not in inside:
        inside[rules] = True
        for bit in parts_of(rules):
            _mark(rules & ~bit, inside)
