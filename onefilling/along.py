"""Rules that are settled by going along their places with what has been come to.

What may have been come to is told by states, whole numbers from 0 on; several states are one number, with a bit for
each. Along the places all states are carried at once. Worths that lead on in the same way are a group.
"""

from onefilling.bits import bits_of, span_bits

# For each worth: the lots among 0 to 63 that don't have it, as states.
WITHOUT = (
    0x5555555555555555,
    0x3333333333333333,
    0x0F0F0F0F0F0F0F0F,
    0x00FF00FF00FF00FF,
    0x0000FFFF0000FFFF,
    0x00000000FFFFFFFF,
)


def kept_along(steps, lots):
    """For each place's lot the worths that some filling in the lots has there for which the rule holds."""
    layers = [1]
    for lot in lots:
        reached = 0
        for group, worths in enumerate(steps.groups):
            if lot & worths:
                reached |= steps.ahead(group, layers[-1])
        layers.append(reached)
    return _kept_backwards(steps, lots, layers)


def _kept_backwards(steps, lots, layers):
    # Back from the end, since a worth is kept only if one can go on from it to the end.
    alive = layers.pop() & steps.ends
    kept = []
    for lot in reversed(lots):
        reached = layers.pop()
        left = 0
        before = 0
        for group, worths in enumerate(steps.groups):
            came = steps.back(group, alive) & reached if lot & worths else 0
            if came:
                left |= lot & worths
                before |= came
        kept.append(left)
        alive = before
    return kept[::-1]


def _each_worth(worths):
    return [1 << at for at in range(worths)]


class Unlike:
    """No two places have one worth: a state is the lot of the worths that are taken."""

    def __init__(self, places, worths):
        self.places = places
        self.groups = _each_worth(worths)
        self.ends = span_bits(0, 63)

    def ahead(self, group, states):
        return (states & WITHOUT[group]) << (1 << group)

    def back(self, group, states):
        return (states >> (1 << group)) & WITHOUT[group]

    def kept(self, lots):
        return kept_along(self, lots)


class Total:
    """The worths together are from LOW up to HIGH: a state is what they are together so far."""

    def __init__(self, places, worths, low, high):
        self.places = places
        self.groups = _each_worth(worths)
        self.ends = span_bits(low, high)

    def ahead(self, group, states):
        return states << (group + 1)

    def back(self, group, states):
        return states >> (group + 1)

    def kept(self, lots):
        return kept_along(self, lots)


class Tally:
    """From LOW up to HIGH places have a worth of the lot: a state is how many have one so far."""

    def __init__(self, places, lot, low, high):
        self.places = places
        self.groups = [bits_of(lot), ~bits_of(lot)]
        self.ends = span_bits(low, high)

    def ahead(self, group, states):
        return states << 1 if group == 0 else states

    def back(self, group, states):
        return states >> 1 if group == 0 else states

    def kept(self, lots):
        return kept_along(self, lots)


class Runs:
    """The stretches of the worth have just these lengths: a state is how far one has come in the pattern.

    The pattern is for each length as many places with the worth, and one without it behind them. Before the first
    stretch, and behind each such place, there may be further ones without it.
    """

    def __init__(self, places, worth, lengths):
        self.places = places
        self.groups = [bits_of((worth,)), ~bits_of((worth,))]
        self.filled = 0
        self.gaps = 0
        size = 0
        for length in lengths:
            self.filled |= span_bits(size, size + length - 1)
            self.gaps |= 1 << (size + length)
            size += length + 1
        self.waits = (self.gaps << 1) | 1
        # The last stretch may end with the way, so without the place behind it.
        self.ends = 3 << (size - 1) if lengths else 1

    def ahead(self, group, states):
        if group == 0:
            return (states & self.filled) << 1
        return ((states & self.gaps) << 1) | (states & self.waits)

    def back(self, group, states):
        if group == 0:
            return (states >> 1) & self.filled
        return ((states >> 1) & self.gaps) | (states & self.waits)

    def kept(self, lots):
        return kept_along(self, lots)


class Seen:
    """Just so many places are above all ahead: a state is the highest worth so far, times 8, and how many were seen.

    No more than the highest worth are seen, so 8 states for each worth are enough.
    """

    def __init__(self, places, worths, many):
        self.places = places
        self.groups = _each_worth(worths)
        self.ends = sum(1 << (8 * highest + many) for highest in range(worths + 1)) if many < 8 else 0

    def ahead(self, group, states):
        edge = 8 * (group + 1)
        seen = 0
        for highest in range(group + 1):
            seen |= (states >> (8 * highest)) & 255
        return ((states >> edge) << edge) | (seen << (edge + 1))

    def back(self, group, states):
        edge = 8 * (group + 1)
        before = (states >> edge) << edge
        seen = ((states >> edge) & 255) >> 1
        for highest in range(group + 1):
            before |= seen << (8 * highest)
        return before

    def kept(self, lots):
        return kept_along(self, lots)
