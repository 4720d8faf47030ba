"""What a rule leaves of a sheet: a keeper has the rule's places, and tells which worths of their lots are kept.

A worth is kept if some filling in the sheet has it there and makes the rule hold. So in a sheet without a void lot a
rule is barred exactly if it keeps nothing of some place's lot.
"""

from onefilling.along import Runs, Seen, Tally, Total, Unlike
from onefilling.bits import bits_of
from onefilling.floor import Floor, lowest


class Pair:
    """Two places: for each worth of the first one the worths of the second one that go with it."""

    def __init__(self, first, second, beside):
        self.places = (first, second)
        self.beside = beside

    def kept(self, lots):
        first, second = lots
        left = 0
        right = 0
        for at, others in enumerate(self.beside):
            if (first >> at) & 1 and others & second:
                left |= 1 << at
                right |= others & second
        return [left, right]


class Words:
    """The worths along the way are one of these words."""

    def __init__(self, places, words):
        self.places = places
        self.words = [[1 << (worth - 1) for worth in word] for word in words]

    def kept(self, lots):
        left = [0] * len(lots)
        for word in self.words:
            if all(lot & bit for lot, bit in zip(lots, word)):
                left = [old | bit for old, bit in zip(left, word)]
        return left


class Joined:
    """The places with worths of the lot hang together."""

    def __init__(self, rows, columns, lot):
        self.places = tuple(range(rows * columns))
        self.floor = Floor(rows, columns)
        self.inside = bits_of(lot)

    def kept(self, lots):
        sure = sum(1 << place for place, lot in enumerate(lots) if not lot & ~self.inside)
        possible = sum(1 << place for place, lot in enumerate(lots) if lot & self.inside)
        if sure == 0:
            # Any one place may be the only one, or none.
            return list(lots)
        piece = self.floor.piece(possible, lowest(sure))
        if sure & ~piece:
            return [0] * len(lots)
        return [self.kept_at(place, lot, sure, piece) for place, lot in enumerate(lots)]

    def kept_at(self, place, lot, sure, piece):
        spot = 1 << place
        left = lot & self.inside if piece & spot else 0
        if sure & spot:
            return left
        # Without this place, if it is left out, the sure ones have to hang together still.
        if sure & ~self.floor.piece(piece & ~spot, lowest(sure)):
            return left
        return left | (lot & ~self.inside)


def _unlike_keeper(kind, rule):
    return Unlike(rule[1], kind[2])


def _sum_keeper(kind, rule):
    return Total(rule[1], kind[2], rule[2], rule[3])


def _below_keeper(kind, rule):
    worths = list(range(1, kind[2] + 1))
    above = [bits_of([other for other in worths if worth < other]) for worth in worths]
    return Pair(rule[1], rule[2], above)


def _steps_keeper(kind, rule):
    worths = list(range(1, kind[2] + 1))
    apart = [bits_of([other for other in worths if rule[3] <= abs(worth - other) <= rule[4]]) for worth in worths]
    return Pair(rule[1], rule[2], apart)


def _count_keeper(kind, rule):
    return Tally(rule[1], rule[2], rule[3], rule[4])


def _words_keeper(kind, rule):
    return Words(rule[1], rule[2])


def _runs_keeper(kind, rule):
    return Runs(rule[1], rule[2], rule[3])


def _seen_keeper(kind, rule):
    return Seen(rule[1], kind[2], rule[2])


def _joined_keeper(kind, rule):
    return Joined(kind[0], kind[1], rule[1])


KEEPERS = {
    "unlike": _unlike_keeper,
    "sum": _sum_keeper,
    "below": _below_keeper,
    "steps": _steps_keeper,
    "count": _count_keeper,
    "words": _words_keeper,
    "runs": _runs_keeper,
    "seen": _seen_keeper,
    "joined": _joined_keeper,
}


# So many lots are remembered at once: a long search would come to more than there is room for.
MOST_KNOWN = 20000


class Remembering:
    """A keeper that remembers what it kept: in a search the same lots come again and again."""

    def __init__(self, keeper):
        self.keeper = keeper
        self.places = keeper.places
        self.area = sum(1 << place for place in keeper.places)
        self.known = {}

    def kept(self, lots):
        key = tuple(lots)
        if key not in self.known:
            if len(self.known) == MOST_KNOWN:
                self.known = {}
            self.known[key] = self.keeper.kept(lots)
        return self.known[key]


def keeper_of(kind, rule):
    """The keeper of the kind's rule."""
    make = KEEPERS[rule[0]]
    return make(kind, rule)


def keepers_of(kind):
    """The keepers of all rules of the kind, for searches."""
    return [Remembering(keeper_of(kind, rule)) for rule in kind[3]]


def lots_at(lots, places):
    """The lots of these places."""
    return [lots[place] for place in places]


def bars(keeper, lots):
    """Whether the keeper's rule is barred in the sheet with these lots."""
    return 0 in lots or 0 in keeper.kept(lots_at(lots, keeper.places))
