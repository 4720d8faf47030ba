"""The search through a sheet: a filling that makes all rules of a lot hold, or else a tree that shows there is none."""

from onefilling.bits import BITS_IN, lowest_worth, parts_of
from onefilling.keepers import keeper_of, lots_at

# Divided by all numbers of rules, from 1 to 12.
SHARE = 27720


class Standing:
    """How the search stands: the lots, what each rule keeps of them, how many unsettled places each rule has."""

    def __init__(self, lots, keeping, loose):
        self.lots = lots
        self.keeping = keeping
        self.loose = loose


class Search:
    """A search by some rules of a kind."""

    def __init__(self, kind, lot):
        self.lot = lot
        self.keepers = [keeper_of(kind, kind[3][index]) for index in lot]
        self.ties = [[] for place in range(kind[0] * kind[1])]
        for at, keeper in enumerate(self.keepers):
            for spot, place in enumerate(keeper.places):
                self.ties[place].append((at, spot))

    def begun(self, lots):
        """The standing with these lots."""
        keeping = [keeper.kept(lots_at(lots, keeper.places)) for keeper in self.keepers]
        loose = [unsettled_many(lots_at(lots, keeper.places)) for keeper in self.keepers]
        return Standing(lots, keeping, loose)

    def settled(self, standing, place, part):
        """The standing with this worth alone at an unsettled place."""
        lots = list(standing.lots)
        keeping = list(standing.keeping)
        loose = list(standing.loose)
        lots[place] = part
        for at, _ in self.ties[place]:
            keeper = self.keepers[at]
            keeping[at] = keeper.kept(lots_at(lots, keeper.places))
            loose[at] -= 1
        return Standing(lots, keeping, loose)

    def left_at(self, standing, place):
        """The worths at the place that each rule, by itself, keeps."""
        left = standing.lots[place]
        for at, spot in self.ties[place]:
            left &= standing.keeping[at][spot]
        return left

    def leaf(self, standing):
        """A tree without cases, if there is one; None."""
        if 0 in standing.lots:
            return ("void", standing.lots.index(0))
        for at, kept in enumerate(standing.keeping):
            if 0 in kept:
                return ("rule", self.lot[at])
        return None

    def answer(self, lots):
        """A pair: any filling in the lots that makes the rules hold, None; or None, and any tree."""
        standing = self.begun(lots)
        tree = self.leaf(standing)
        if tree is not None:
            return None, tree
        return self.answer_from(standing)

    def answer_from(self, standing):
        """The same for a standing in which no rule is barred."""
        left = [self.left_at(standing, place) for place in range(len(standing.lots))]
        place = self.chosen(standing, left)
        if place is None:
            return tuple([lowest_worth(bits) for bits in left]), None
        trees = []
        for part in parts_of(standing.lots[place]):
            if not part & left[place]:
                trees.append(("rule", self.barring(standing, place, part)))
                continue
            filling, tree = self.answer_from(self.settled(standing, place, part))
            if filling is not None:
                return filling, None
            trees.append(tree)
        return None, ("cases", place, tuple(trees))

    def chosen(self, standing, left):
        """The place at which to go on; None if each worth that is left will do.

        Cases are fewest where few worths are left, and where many rules will tell more by what stands there: a rule
        with no other unsettled place has told all it can.
        """
        best = None
        least = 0
        for place, lot in enumerate(standing.lots):
            if BITS_IN[lot] < 2:
                continue
            if left[place] == 0:
                return place
            telling = self.telling(standing, place)
            if telling == 0:
                continue
            cost = SHARE * (BITS_IN[left[place]] - 1) // telling
            if best is None or cost < least:
                best = place
                least = cost
        return best

    def telling(self, standing, place):
        """How many rules this place has to do with that have another unsettled place, too."""
        many = 0
        for at, _ in self.ties[place]:
            if standing.loose[at] > 1:
                many += 1
        return many

    def barring(self, standing, place, part):
        """The index of a rule that does not keep this worth there."""
        for at, spot in self.ties[place]:
            if not standing.keeping[at][spot] & part:
                return self.lot[at]
        return None

    def first_fillings(self, lots, most):
        """The first fillings in the lots that make the rules hold, ascending, up to so many."""
        found = []
        standing = self.begun(lots)
        if most > 0 and self.leaf(standing) is None:
            self.gather(standing, None, most, found)
        return found

    def gather(self, standing, known, most, found):
        """Put the first fillings behind those found; KNOWN is any one in the lots, None if none is known yet."""
        place = first_unsettled(standing.lots)
        if place is None:
            found.append(tuple([lowest_worth(lot) for lot in standing.lots]))
            return
        for part in parts_of(self.left_at(standing, place)):
            inner = self.settled(standing, place, part)
            ahead = known if known is not None and 1 << (known[place] - 1) == part else None
            # Without this, places behind could fail again and again for what these here have no part in.
            if ahead is None:
                ahead = self.answer_from(inner)[0]
            if ahead is not None:
                self.gather(inner, ahead, most, found)
            if len(found) == most:
                return


def unsettled_many(lots):
    """How many of the lots have more worths than one."""
    return sum(1 for lot in lots if BITS_IN[lot] > 1)


def first_unsettled(lots):
    """The first place with more worths than one; None."""
    for place, lot in enumerate(lots):
        if BITS_IN[lot] > 1:
            return place
    return None
