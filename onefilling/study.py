"""What is known of a kind whatever the sheet: its search, its families, and fillings that were found.

Of a filling it is kept which rules it meets. So for another sheet in which it lies, too, it is not searched once more.
"""

from onefilling.bits import worth_bit
from onefilling.families import family_for, rules_of
from onefilling.holding import rule_holds
from onefilling.search import Search

# So wide is a lot in the number of a sheet.
WIDTH = 6
# So many fillings are kept: each new watch looks through them.
MOST_POOLED = 1000


class Study:
    """What is known of a kind."""

    def __init__(self, kind):
        self.kind = kind
        self.everything = (1 << len(kind[3])) - 1
        self.search = Search(kind)
        self.families = {}
        self.pool = []

    def family_by(self, most):
        """All lots of just MOST rules, of all rules if there are fewer."""
        if most not in self.families:
            self.families[most] = family_for(self.kind, most)
        return self.families[most]

    def pooled(self, filling):
        """Keep a filling, and tell the rules that it meets."""
        kind = self.kind
        met = rules_of([index for index, rule in enumerate(kind[3]) if rule_holds(kind, rule, filling)])
        if len(self.pool) == MOST_POOLED:
            self.pool = self.pool[MOST_POOLED // 2:]
        self.pool.append((whole_number([worth_bit(worth) for worth in filling]), filling, met))
        return met

    def found_in(self, lots):
        """The fillings that are known and lie in the lots, each with the rules that it meets."""
        whole = whole_number(lots)
        return [(filling, met) for number, filling, met in self.pool if not number & ~whole]

    def filling_within(self, lots):
        """Any filling in the lots that fills the kind; None."""
        whole = whole_number(lots)
        for number, filling, met in self.pool:
            if met == self.everything and not number & ~whole:
                return filling
        filling, _ = self.search.answer(lots, self.everything)
        if filling is not None:
            self.pooled(filling)
        return filling

    def the_one(self, lots):
        """The one filling in the lots that fills the kind; None if there is none, or more than one."""
        found = self.search.first_fillings(lots, self.everything, 2)
        return found[0] if len(found) == 1 else None


def whole_number(lots):
    """All lots of a sheet as one number."""
    whole = 0
    for place, bits in enumerate(lots):
        whole |= bits << (WIDTH * place)
    return whole
