"""Trees of gaps: whether a value is one, and growing them. They show that no lot of fewer places tells a filling."""

from onefilling.bits import sheet_bits, sheet_of
from onefilling.covers import covers_by
from onefilling.families import lot_of, rules_of
from onefilling.forms import is_sheet_form
from onefilling.judge import loose_places
from onefilling.watch import Watch


def is_tree_of_gaps(judge, filling, most, many, places, value):
    """Whether the value is a tree of gaps for the filling, MOST, MANY and these places."""
    if not isinstance(value, tuple) or len(value) != 3 or not is_sheet_form(judge.kind, value[0]):
        return False
    sheet, covers, trees = value
    lots = sheet_bits(sheet)
    loose = loose_places(lots)
    if not judge.is_filling_in(lots, 0, filling) or not loose or any(place in places for place in loose):
        return False
    wanted = () if len(places) == many - 1 else loose
    if not isinstance(trees, tuple) or len(trees) != len(wanted) or not judge.are_covers(lots, most, covers):
        return False
    return all(is_tree_of_gaps(judge, filling, most, many, places + (place,), tree)
               for place, tree in zip(wanted, trees))


class GapTrees:
    """What grows trees of gaps for a filling from least gaps, one of which each lot of fewer places does not meet."""

    def __init__(self, telling, gaps, many):
        self.source = telling
        # With few places there are few trees.
        self.gaps = [rules_of(lot) for lot in sorted([lot_of(gap) for gap in gaps], key=len)]
        self.many = many
        self.sheets = {}
        self.trees = {}

    def tree(self, places):
        """A tree of gaps for these places."""
        if places not in self.trees:
            gap = self.gap_beside(places)
            inner = []
            if len(lot_of(places)) < self.many - 1:
                inner = [self.tree(places | (1 << place)) for place in lot_of(gap)]
            sheet, covers = self.sheet_and_covers(gap)
            self.trees[places] = (sheet, covers, tuple(inner))
        return self.trees[places]

    def gap_beside(self, places):
        """A gap that these places do not meet."""
        for gap in self.gaps:
            if not gap & places:
                return gap
        return None

    def sheet_and_covers(self, gap):
        """A pair: the closed sheet that is not settled just at the places of this least gap, and its covers."""
        if gap not in self.sheets:
            self.sheets[gap] = closed_beside(self.source, gap)
        return self.sheets[gap]


def closed_beside(telling, gap):
    """A pair: the end of the sheet with the filling's worths at all places but those of the gap, and its covers."""
    study = telling.study
    lots = telling.end_at(telling.everywhere & ~gap)
    return sheet_of(lots), covers_by(Watch(study, list(lots), study.family_by(telling.most)))
