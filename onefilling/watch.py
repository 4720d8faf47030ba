"""A watch over a sheet that is struck: what is found out once about its strikes is not asked again.

A strike does not follow from lots whose rules a filling with it meets; it follows from each lot that has all rules of
one from which it does. Lots like these, here called its cores, stay known when other strikes are made, and fillings do
as long as they lie in the sheet. Both stay known, too, when another family is asked for.
"""

from onefilling.bits import lowest_at, parts_of, worth_bit, worths_in
from onefilling.families import rules_of


class Watch:
    """The lots of a sheet, and the family of lots of rules from one of which strikes are to follow."""

    def __init__(self, study, lots, family):
        self.study = study
        self.lots = lots
        self.family = family
        self.search = study.search
        self.found = study.found_in(lots)
        self.served = {}
        self.is_served = False
        self.cores = {}

    def turn_to(self, family):
        """Ask for another family from now on."""
        self.family = family
        self.is_served = False

    def strikes(self):
        """All strikes of the sheet, ascending."""
        return [(place, worth) for place, lot in enumerate(self.lots) for worth in worths_in(lot)]

    def make(self, place, worth):
        """Make a strike."""
        self.lots[place] -= worth_bit(worth)
        self.found = [(filling, met) for filling, met in self.found if filling[place] != worth]
        self.is_served = False

    def keep(self, filling):
        """Keep a filling that lies in the sheet, with the rules that it meets."""
        met = self.study.pooled(filling)
        self.found.append((filling, met))
        if self.is_served:
            self.serve(filling, met)

    def serve(self, filling, met):
        """A filling serves all its strikes for those lots of the family whose rules it meets; whether it adds any."""
        lots = self.family.within(met)
        added = 0
        for strike in enumerate(filling):
            before = self.served.get(strike, 0)
            self.served[strike] = before | lots
            added |= lots & ~before
        return added != 0

    def serve_all(self):
        """Tell anew which strikes the fillings serve for which lots of the family; those that add nothing go."""
        self.served = {}
        adding = []
        for filling, met in self.found:
            if self.serve(filling, met):
                adding.append((filling, met))
        self.found = adding
        self.is_served = True

    def is_met(self, place, worth, rules):
        """Whether a filling is known that has the strike and meets the rules."""
        return any(filling[place] == worth and not rules & ~met for filling, met in self.found)

    def easy_ground(self, place, worth):
        """Rules within a lot of the family from which the strike follows, as far as one rule tells it alone; None."""
        if 0 in self.lots:
            return 0 if self.family.lots else None
        index = self.search.barring(self.lots, place, worth, self.family.rules)
        return None if index is None else 1 << index

    def ground(self, place, worth):
        """Rules within a lot of the family from which the strike follows; None if it follows from none of them."""
        easy = self.easy_ground(place, worth)
        if easy is not None:
            return easy
        cores = self.cores.setdefault((place, worth), [])
        for core in cores:
            if self.family.holder(core) is not None:
                return core
        missing = self.unserved(place, worth)
        while missing:
            wanted = self.family.numbers[lowest_at(missing)]
            core = self.core_among(place, worth, self.widened(wanted, cores))
            if core is not None:
                if self.family.holder(core) is None:
                    core = self.shrunk(place, worth, core)
                cores.append(core)
                if self.family.holder(core) is not None:
                    return core
            missing = self.unserved(place, worth)
        return None

    def unserved(self, place, worth):
        """The lots of the family whose rules no filling is known to meet that has the strike."""
        if not self.is_served:
            self.serve_all()
        return self.family.everyone & ~self.served.get((place, worth), 0)

    def widened(self, wanted, cores):
        """The wanted rules and as many more of the family's as have no core among them."""
        rules = wanted
        for bit in parts_of(self.family.rules & ~wanted):
            if not has_core(cores, rules | bit):
                rules |= bit
        return rules

    def core_among(self, place, worth, rules):
        """Those of the rules from which the strike follows; None if it doesn't, and a filling is kept."""
        lots = list(self.lots)
        lots[place] = worth_bit(worth)
        filling, blamed = self.search.answer(lots, rules)
        if filling is not None:
            self.keep(filling)
        return blamed

    def shrunk(self, place, worth, rules):
        """A least lot among rules from which the strike follows."""
        least = rules
        for bit in parts_of(rules):
            if bit & least and not self.is_met(place, worth, least & ~bit):
                core = self.core_among(place, worth, least & ~bit)
                least = least if core is None else core
        return least

    def least_lots(self, place, worth, lots):
        """The numbers of the least lots of the strike: all those that stand among these lots, and perhaps others."""
        cores = []
        for wanted in [rules_of(lot) for lot in lots]:
            while not has_core(cores, wanted) and not self.is_met(place, worth, wanted):
                core = self.core_among(place, worth, self.widened(wanted, cores))
                if core is not None:
                    cores.append(self.shrunk(place, worth, core))
        return cores


def has_core(cores, rules):
    """Whether one of the cores has no other rules than these."""
    return any(not core & ~rules for core in cores)
