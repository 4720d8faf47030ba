"""What is asked of papers for a kind: trees, rows of reasons, covers, fillings. Nothing is taken on trust.

Sheets are told by the numbers of their lots here; what comes from a paper may be any value.
"""

from onefilling.bits import BITS_IN, begin_bits, lowest_worth, parts_of, worth_bit
from onefilling.covers import MOST_IN_COVER
from onefilling.families import lots_of_size, rules_of
from onefilling.forms import is_filling_form, is_lot_of_rules, is_whole
from onefilling.holding import rule_holds
from onefilling.keepers import keepers_of
from onefilling.trees import is_tree_by


class Judge:
    """What judges papers for a kind."""

    def __init__(self, kind):
        self.kind = kind
        self.keepers = keepers_of(kind)
        self.everything = (1 << len(kind[3])) - 1
        self.known = {}

    def met_by(self, filling):
        """The rules that a filling meets."""
        if filling not in self.known:
            kind = self.kind
            self.known[filling] = rules_of([at for at, rule in enumerate(kind[3]) if rule_holds(kind, rule, filling)])
        return self.known[filling]

    def is_filling_in(self, lots, rules, value):
        """Whether the value is a filling in the lots that meets these rules."""
        # The form first: as keys True and 1 would be one.
        if not is_filling_form(self.kind, value):
            return False
        if not all(lot & worth_bit(worth) for worth, lot in zip(value, lots)):
            return False
        return not rules & ~self.met_by(value)

    def is_tree(self, lots, lot, value):
        """Whether the value is a tree for the lots and this lot of rules."""
        return is_tree_by({index: self.keepers[index] for index in lot}, lots, value)

    def is_tree_for_all(self, lots, value):
        """Whether the value is a tree for the lots and all rules."""
        return self.is_tree(lots, tuple(range(len(self.keepers))), value)

    def led(self, lots, row, most):
        """The lots to which a row of reasons with lots of up to MOST rules leads; None if the value is no such row."""
        if not isinstance(row, tuple):
            return None
        behind = list(lots)
        for value in row:
            if not self.is_reason(behind, value, most):
                return None
            behind[value[1]] -= worth_bit(value[2])
        return behind

    def is_reason(self, lots, value, most):
        """Whether the value is a reason for the lots with a lot of up to MOST rules."""
        if not isinstance(value, tuple) or len(value) != 4:
            return False
        lot, place, worth, tree = value
        if not is_lot_of_rules(self.kind, lot) or len(lot) > most or not self.is_spot(lots, place, worth):
            return False
        return self.is_tree(alone_at(lots, place, worth_bit(worth)), lot, tree)

    def is_spot(self, lots, place, worth):
        """Whether both are a place and a worth of its lot."""
        if not is_whole(place, 0, len(lots) - 1) or not is_whole(worth, 1, self.kind[2]):
            return False
        return lots[place] & worth_bit(worth) != 0

    def is_settled_row(self, lots, row, most):
        """Whether the value is a row of such reasons that leads to a settled sheet."""
        behind = self.led(lots, row, most)
        return behind is not None and is_settled(behind)

    def is_cover(self, lots, rules, value):
        """Whether the value is a cover of the sheet for these rules."""
        if not isinstance(value, tuple) or len(value) > MOST_IN_COVER:
            return False
        missing = list(lots)
        for filling in value:
            if not self.is_filling_in(lots, rules, filling):
                return False
            missing = [lot & ~worth_bit(worth) for lot, worth in zip(missing, filling)]
        return not any(missing)

    def are_covers(self, lots, most, value):
        """Whether the value is the covers that show that the sheet is closed for MOST."""
        many = len(self.kind[3])
        wanted = lots_of_size(many, min(most, many))
        if not isinstance(value, tuple) or len(value) != len(wanted):
            return False
        return all(self.is_cover(lots, rules_of(lot), cover) for lot, cover in zip(wanted, value))

    def are_trees_for_one(self, givens, filling, value):
        """Whether the value is the trees that show that no other filling has these givens."""
        lots = begin_bits(self.kind, givens)
        if not isinstance(value, tuple) or len(value) != len(lots):
            return False
        return all(self.are_trees_at(lots, place, filling[place], value[place]) for place in range(len(lots)))

    def are_trees_at(self, lots, place, worth, value):
        """Whether the value is trees for the other worths of this place, in order, each alone there."""
        parts = parts_of(lots[place] & ~worth_bit(worth))
        if not isinstance(value, tuple) or len(value) != len(parts):
            return False
        return all(self.is_tree_for_all(alone_at(lots, place, part), tree) for part, tree in zip(parts, value))


def alone_at(lots, place, part):
    """The lots with this worth alone at the place."""
    inner = list(lots)
    inner[place] = part
    return inner


def is_settled(lots):
    """Whether each lot has just one worth."""
    return all(BITS_IN[lot] == 1 for lot in lots)


def filling_of(lots):
    """The filling of a settled sheet."""
    return tuple([lowest_worth(lot) for lot in lots])


def loose_places(lots):
    """The places that are not settled, of a sheet without a void lot."""
    return tuple([place for place, lot in enumerate(lots) if BITS_IN[lot] > 1])
