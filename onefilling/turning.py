"""Turning kinds, sheets, fillings and givens, and the turns that keep a kind."""

from itertools import permutations

from onefilling.forms import is_whole

# What the parts of each sort of rules are: "same" is not turned; places in order are a way, otherwise they ascend.
PARTS = {
    "unlike": ("places",),
    "sum": ("places", "same", "same"),
    "below": ("place", "place"),
    "steps": ("place", "place", "same", "same"),
    "count": ("places", "lot", "same", "same"),
    "words": ("way", "words"),
    "runs": ("way", "worth", "same"),
    "seen": ("way", "same"),
    "joined": ("lot",),
}
# Rules by which greater and lesser worths are told: their worths may not be exchanged.
ORDERED = ("sum", "below", "steps", "seen")
MOST_HOW = 7


def is_turn_form(kind, value):
    """Whether the value, whatever it is, is a turn of the kind."""
    if not isinstance(value, tuple) or len(value) != 2:
        return False
    how, exchange = value
    if not is_whole(how, 0, MOST_HOW) or not isinstance(exchange, tuple) or len(exchange) != kind[2]:
        return False
    if not all(is_whole(worth, 1, kind[2]) for worth in exchange) or len(set(exchange)) != kind[2]:
        return False
    return not is_ordered(kind) or exchange == in_order(kind)


def is_ordered(kind):
    """Whether the kind has a rule by which greater and lesser worths are told."""
    return any(rule[0] in ORDERED for rule in kind[3])


def in_order(kind):
    """The exchange that leaves each worth as it is."""
    return tuple(range(1, kind[2] + 1))


def spots_by(kind, how):
    """For each place where it comes to."""
    rows, columns = kind[0], kind[1]
    spots = []
    for place in range(rows * columns):
        row, column = divmod(place, columns)
        row = rows - 1 - row if how & 2 else row
        column = columns - 1 - column if how & 1 else column
        spots.append(column * rows + row if how & 4 else row * columns + column)
    return spots


def turned_by(kind, turn):
    """The turned kind."""
    how, exchange = turn
    rows, columns = (kind[1], kind[0]) if how & 4 else (kind[0], kind[1])
    spots = spots_by(kind, how)
    return rows, columns, kind[2], tuple([turned_rule(rule, spots, exchange) for rule in kind[3]])


def turned_rule(rule, spots, exchange):
    """The rule with each place where it comes to, and each worth exchanged."""
    parts = [turned_part(what, part, spots, exchange) for what, part in zip(PARTS[rule[0]], rule[1:])]
    return (rule[0],) + tuple(parts)


def turned_part(what, part, spots, exchange):
    """A part of a rule, turned."""
    if what == "place":
        return spots[part]
    if what == "places":
        return tuple(sorted([spots[place] for place in part]))
    if what == "way":
        return tuple([spots[place] for place in part])
    if what == "worth":
        return exchange[part - 1]
    if what == "lot":
        return exchanged_lot(part, exchange)
    if what == "words":
        return tuple(sorted([exchanged(word, exchange) for word in part]))
    return part


def exchanged(worths, exchange):
    """What these worths become, in their order."""
    return tuple([exchange[worth - 1] for worth in worths])


def exchanged_lot(lot, exchange):
    """The lot of what these worths become."""
    return tuple(sorted(exchanged(lot, exchange)))


def turned_row(kind, how, values):
    """A tuple of something for each place, in the order of where the places come to."""
    turned = list(values)
    for spot, value in zip(spots_by(kind, how), values):
        turned[spot] = value
    return tuple(turned)


def turned_givens(kind, turn, givens):
    """The turned givens."""
    how, exchange = turn
    spots = spots_by(kind, how)
    return tuple(sorted([(spots[place], exchange[worth - 1]) for place, worth in givens]))


def is_same_kind(kind, other):
    """Whether both have the same places, the same worths, and the same rules, each as many times, in any order."""
    return kind[:3] == other[:3] and sorted(kind[3]) == sorted(other[3])


class Keeping:
    """The turns that keep a kind: pairs of where the places come to and all exchanges that go with it."""

    def __init__(self, kind):
        self.kind = kind
        self.rules = sorted(kind[3])
        self.turns = []
        for how in range(MOST_HOW + 1):
            exchanges = self.exchanges(how) if how < 4 or kind[0] == kind[1] else []
            if exchanges:
                self.turns.append((spots_by(kind, how), exchanges))

    def exchanges(self, how):
        """All exchanges that keep the kind by this HOW."""
        kind = self.kind
        spots = spots_by(kind, how)
        moved = [turned_rule(rule, spots, in_order(kind)) for rule in kind[3]]
        if is_ordered(kind):
            return [in_order(kind)] if sorted(moved) == self.rules else []
        return [exchange for exchange in permutations(range(1, kind[2] + 1)) if self.is_kept(moved, exchange)]

    def is_kept(self, moved, exchange):
        """Whether the rules, by this exchange, are those of the kind."""
        places = list(range(self.kind[0] * self.kind[1]))
        turned = []
        for rule in moved:
            turned.append(turned_rule(rule, places, exchange))
            # Most exchanges are done with at the first rule.
            if turned[-1] not in self.rules:
                return False
        return sorted(turned) == self.rules

    def least(self, givens):
        """The least givens to which these turns lead."""
        return min([self.least_by(spots, exchanges, givens) for spots, exchanges in self.turns])

    def least_by(self, spots, exchanges, givens):
        """The least givens with the places where they come to, by one of the exchanges."""
        left = exchanges
        told = []
        for spot, worth in sorted([(spots[place], worth) for place, worth in givens]):
            least = min([exchange[worth - 1] for exchange in left])
            left = [exchange for exchange in left if exchange[worth - 1] == least]
            told.append((spot, least))
        return tuple(told)
