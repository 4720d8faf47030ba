"""Growing trees where no filling makes some rules hold. A leaf tells of one rule alone, so lots are not narrowed."""

from onefilling.bits import BITS_IN, parts_of
from onefilling.families import lot_of
from onefilling.keepers import lots_at

# Divided by all numbers of rules, from 1 to 12.
SHARE = 27720


class Standing:
    """How a tree stands: the lots, what each rule keeps of them, how many unsettled places each rule has."""

    def __init__(self, lots, keeping, loose):
        self.lots = lots
        self.keeping = keeping
        self.loose = loose


class Grower:
    """What grows trees by some rules; KEEPERS are those of all rules of the kind."""

    def __init__(self, keepers, places, rules):
        self.lot = lot_of(rules)
        self.keepers = [keepers[index] for index in self.lot]
        self.ties = [[] for place in range(places)]
        for at, keeper in enumerate(self.keepers):
            for spot, place in enumerate(keeper.places):
                self.ties[place].append((at, spot))

    def tree(self, lots):
        """A tree for the lots."""
        if 0 in lots:
            return ("void", lots.index(0))
        standing = self.begun(lots)
        for index, kept in zip(self.lot, standing.keeping):
            if 0 in kept:
                return ("rule", index)
        return self.tree_from(standing)

    def begun(self, lots):
        """The standing with these lots."""
        keeping = [keeper.kept(lots_at(lots, keeper.places)) for keeper in self.keepers]
        loose = [unsettled_many(lots_at(lots, keeper.places)) for keeper in self.keepers]
        return Standing(lots, keeping, loose)

    def settled(self, standing, place, part):
        """The standing with this worth alone at an unsettled place."""
        lots = list(standing.lots)
        keeping = list(standing.keeping)
        loose = list(standing.loose)
        lots[place] = part
        for at, _ in self.ties[place]:
            keeper = self.keepers[at]
            keeping[at] = keeper.kept(lots_at(lots, keeper.places))
            loose[at] -= 1
        return Standing(lots, keeping, loose)

    def left_at(self, standing, place):
        """The worths at the place that each rule, by itself, keeps."""
        left = standing.lots[place]
        for at, spot in self.ties[place]:
            left &= standing.keeping[at][spot]
        return left

    def tree_from(self, standing):
        """A tree for a standing in which no rule is barred."""
        left = [self.left_at(standing, place) for place in range(len(standing.lots))]
        place = self.chosen(standing, left)
        trees = []
        for part in parts_of(standing.lots[place]):
            if part & left[place]:
                trees.append(self.tree_from(self.settled(standing, place, part)))
            else:
                trees.append(("rule", self.barring(standing, place, part)))
        return ("cases", place, tuple(trees))

    def chosen(self, standing, left):
        """The place at which to go on.

        Cases are fewest where few worths are left, and where many rules will tell more by what stands there: a rule
        with no other unsettled place has told all it can.
        """
        best = None
        least = 0
        for place, lot in enumerate(standing.lots):
            if BITS_IN[lot] < 2:
                continue
            if left[place] == 0:
                return place
            telling = self.telling(standing, place)
            if telling == 0:
                continue
            cost = SHARE * (BITS_IN[left[place]] - 1) // telling
            if best is None or cost < least:
                best = place
                least = cost
        return best

    def telling(self, standing, place):
        """How many rules this place has to do with that have another unsettled place, too."""
        many = 0
        for at, _ in self.ties[place]:
            if standing.loose[at] > 1:
                many += 1
        return many

    def barring(self, standing, place, part):
        """The index of a rule that does not keep this worth there."""
        for at, spot in self.ties[place]:
            if not standing.keeping[at][spot] & part:
                return self.lot[at]
        return None


def unsettled_many(lots):
    """How many of the lots have more worths than one."""
    return sum(1 for lot in lots if BITS_IN[lot] > 1)


def grown(keepers, lots, rules):
    """A tree for lots in which no filling makes these rules hold."""
    return Grower(keepers, len(lots), rules).tree(lots)
