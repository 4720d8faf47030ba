"""The search through a sheet: a filling that makes some rules hold, or else those of the rules that exclude one.

Each rule narrows the lots to what it keeps, and so on, until all keep all; then the search goes on by cases. What fails
is blamed on rules and on places: with these rules it fails wherever these places have no other worths. So of the rules
one comes to know those that were needed, and cases of a place that has no part in a failure are not gone through.
Several rules, and several places, are one number, with a bit for each.
"""

from onefilling.bits import BITS_IN, lowest_at, lowest_worth, parts_of, worth_bit
from onefilling.keepers import keepers_of, lots_at


class Search:
    """A search by rules of a kind."""

    def __init__(self, kind):
        self.keepers = keepers_of(kind)
        self.ties = [0] * (kind[0] * kind[1])
        for index, keeper in enumerate(self.keepers):
            for place in keeper.places:
                self.ties[place] |= 1 << index
        # How often each rule has failed: it tells where cases are soon decided.
        self.weights = [1] * len(self.keepers)

    def answer(self, lots, rules):
        """A pair: any filling in the lots that makes the rules hold, None; or None, and rules that exclude one."""
        if 0 in lots:
            return None, 0
        filling, blamed, _ = self.tried(list(lots), rules, rules)
        return filling, (blamed if filling is None else None)

    def tried(self, lots, rules, due):
        """A filling, 0, 0; or None, the rules and the places that are to blame. The lots are narrowed."""
        trail = []
        failed = self.narrow(lots, rules, due, trail)
        if failed is not None:
            return self.blame(trail, 1 << failed, self.keepers[failed].area)
        place = self.chosen(lots, rules)
        if place is None:
            return tuple([lowest_worth(bits) for bits in lots]), 0, 0
        blamed = 0
        area = 0
        for part in parts_of(lots[place]):
            inner = list(lots)
            inner[place] = part
            filling, some, there = self.tried(inner, rules, self.ties[place] & rules)
            if filling is not None:
                return filling, 0, 0
            if not (there >> place) & 1:
                # Each other worth would fail for the same.
                return self.blame(trail, some, there)
            blamed |= some
            area |= there
        return self.blame(trail, blamed, area)

    def narrow(self, lots, rules, due, trail):
        """Narrow the lots to what the rules keep, those that are due first; the index of one that is barred, or None.

        The trail tells, in order, at which place which rule has narrowed the lot.
        """
        while due:
            index = lowest_at(due)
            keeper = self.keepers[index]
            here = lots_at(lots, keeper.places)
            kept = keeper.kept(here)
            for place, before, left in zip(keeper.places, here, kept):
                if left == 0:
                    self.weights[index] += 1
                    return index
                if left != before:
                    lots[place] = left
                    trail.append((place, index))
                    due |= self.ties[place] & rules
            due &= ~(1 << index)
        return None

    def blame(self, trail, blamed, area):
        """None, and the rules and the places that are to blame for a failure ahead of what the trail tells."""
        for place, index in reversed(trail):
            if (area >> place) & 1:
                blamed |= 1 << index
                area |= self.keepers[index].area
        return None, blamed, area

    def chosen(self, lots, rules):
        """The place at which to go on, with few worths, and with rules that fail often; None if any worths will do."""
        best = None
        fewest = 0
        heaviest = 0
        for place, lot in enumerate(lots):
            many = BITS_IN[lot]
            weight = self.weight_at(place, rules) if many > 1 else 0
            if weight > 0 and (best is None or many * heaviest < fewest * weight):
                best = place
                fewest = many
                heaviest = weight
        return best

    def weight_at(self, place, rules):
        """How heavy the rules are, together, that have to do with this place."""
        ties = self.ties[place] & rules
        weight = 0
        while ties:
            weight += self.weights[lowest_at(ties)]
            ties &= ties - 1
        return weight

    def barring(self, lots, place, worth, rules):
        """The index of one of the rules that, by itself, does not keep this worth there; None."""
        ties = self.ties[place] & rules
        while ties:
            index = lowest_at(ties)
            keeper = self.keepers[index]
            kept = keeper.kept(lots_at(lots, keeper.places))
            if not kept[keeper.places.index(place)] & worth_bit(worth):
                return index
            ties &= ties - 1
        return None

    def first_fillings(self, lots, rules, most):
        """The first fillings in the lots that make the rules hold, ascending, up to so many."""
        found = []
        if most > 0 and 0 not in lots:
            self.gather(list(lots), rules, rules, None, most, found)
        return found

    def gather(self, lots, rules, due, known, most, found):
        """Put the first fillings behind those found; KNOWN is any one in the lots, None if none is known yet."""
        if self.narrow(lots, rules, due, []) is not None:
            return
        # Without this, places behind could fail again and again for what those ahead have no part in.
        ahead = self.tried(list(lots), rules, 0)[0] if known is None else known
        if ahead is None:
            return
        place = first_unsettled(lots)
        if place is None:
            found.append(ahead)
            return
        for part in parts_of(lots[place]):
            inner = list(lots)
            inner[place] = part
            same = ahead if worth_bit(ahead[place]) == part else None
            self.gather(inner, rules, self.ties[place] & rules, same, most, found)
            if len(found) == most:
                return


def first_unsettled(lots):
    """The first place with more worths than one; None."""
    for place, lot in enumerate(lots):
        if BITS_IN[lot] > 1:
            return place
    return None
