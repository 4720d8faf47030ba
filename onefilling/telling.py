"""Which lots of places tell a filling by so many rules at a time, and its gaps.

A lot of places is one number here. Lots that tell and lots that don't are told from one another by what is found: with
each lot that tells, those with more places do; with each gap, those without a place of it don't.
"""

from onefilling.bits import BITS_IN, begin_bits, parts_of
from onefilling.closing import close
from onefilling.families import lot_of, lots_of_size, rules_of
from onefilling.study import Study
from onefilling.watch import Watch


class Telling:
    """A filling that fills a kind, and by how many rules at a time it is to be told."""

    def __init__(self, kind, filling, most):
        self.study = Study(kind)
        self.filling = filling
        self.most = most
        self.everywhere = (1 << len(filling)) - 1
        self.known = {}
        # It lies in each sheet that is asked of here.
        self.study.pooled(filling)

    def end_at(self, places):
        """The numbers of the lots of the end of the sheet with the filling's worths at these places."""
        lots = begin_bits(self.study.kind, [(place, self.filling[place]) for place in lot_of(places)])
        watch = Watch(self.study, lots, self.study.family_by(self.most))
        close(watch)
        return watch.lots

    def loose_at(self, places):
        """Which places are not settled in this end: 0 if these places tell the filling, otherwise a gap."""
        if places not in self.known:
            left = self.end_at(places)
            self.known[places] = sum(1 << place for place, lot in enumerate(left) if BITS_IN[lot] > 1)
        return self.known[places]

    def least_gap(self, gap):
        """A least gap within a gap."""
        least = gap
        for bit in parts_of(gap):
            if bit & least:
                # Asked of this place and all outside of the gap: if they don't tell it, a gap lies within the others.
                inner = self.loose_at((self.everywhere & ~least) | bit)
                least = inner if inner else least
        return least

    def made_by(self, order):
        """What is left of all places when one after the other is left out, as far as the filling is told still."""
        left = self.everywhere
        for place in order:
            if self.loose_at(left & ~(1 << place)) == 0:
                left &= ~(1 << place)
        return left

    def gaps_and_tight_lots(self):
        """All least gaps and all tight lots, in any order."""
        settled = Settled(len(self.filling))
        gaps = []
        tight = []
        for places in range(self.everywhere + 1):
            while not settled.has(places):
                gap = self.loose_at(places)
                if gap == 0:
                    # Of lots with fewer places, which all stand ahead, none tells it.
                    tight.append(places)
                    settled.add_wider(places)
                else:
                    gaps.append(self.least_gap(gap))
                    settled.add_narrower(self.everywhere & ~gaps[-1])
        return gaps, tight

    def fewest_and_gaps(self):
        """A lot of the fewest places that tells the filling, and least gaps that are not met by lots of fewer."""
        settled = Settled(len(self.filling))
        gaps = []
        for size in range(len(self.filling) + 1):
            for places in [rules_of(lot) for lot in lots_of_size(len(self.filling), size)]:
                if settled.has(places):
                    continue
                gap = self.loose_at(places)
                if gap == 0:
                    return places, gaps
                gaps.append(self.least_gap(gap))
                settled.add_narrower(self.everywhere & ~gaps[-1])
        return None


class Settled:
    """The lots of so many places of which it is known whether they tell a filling."""

    def __init__(self, many):
        self.bits = [1 << place for place in range(many)]
        self.marks = [False] * (1 << many)

    def has(self, places):
        return self.marks[places]

    def add_wider(self, places):
        """All lots that have these places."""
        self.marks[places] = True
        waiting = [places]
        while waiting:
            lot = waiting.pop()
            for bit in self.bits:
                if not self.marks[lot | bit]:
                    self.marks[lot | bit] = True
                    waiting.append(lot | bit)

    def add_narrower(self, places):
        """All lots that have no other places than these."""
        self.marks[places] = True
        waiting = [places]
        while waiting:
            lot = waiting.pop()
            for bit in self.bits:
                if not self.marks[lot & ~bit]:
                    self.marks[lot & ~bit] = True
                    waiting.append(lot & ~bit)
