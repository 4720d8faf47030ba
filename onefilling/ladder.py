"""Ladders: the ends of a sheet for no rule at a time, one, two and so on, and what they tell of moves."""

from onefilling.bits import BITS_IN, begin_bits, lowest_worth
from onefilling.closing import close
from onefilling.moves import MOST_MOVES, is_undo, lots_behind, taken_by
from onefilling.study import Study
from onefilling.watch import Watch


class Ladder:
    """The ends of a sheet, as far as they are known."""

    def __init__(self, study, lots, ends):
        self.study = study
        self.lots = lots
        self.ends = ends
        self.top = len(study.kind[3])

    def end_for(self, most):
        """The numbers of the lots of the end for MOST."""
        if most not in self.ends:
            # The end for more rules is that of the end for fewer.
            lower = max([size for size in self.ends if size < most], default=None)
            lots = self.lots if lower is None else self.ends[lower]
            watch = Watch(self.study, list(lots), self.study.family_by(most))
            close(watch)
            self.ends[most] = watch.lots
        return self.ends[most]

    def grade_at(self, place, taken):
        """The least number for which the end has none of these worths there; None if there is no such number."""
        if self.is_filled_with(place, taken):
            return None
        most = 0
        while self.end_for(most)[place] & taken:
            most += 1
        return most

    def is_filled_with(self, place, taken):
        """Whether some filling in the sheet that fills the kind has one of these worths there."""
        lots = list(self.lots)
        lots[place] &= taken
        return self.study.filling_within(lots) is not None

    def behind(self, move, grade):
        """The ladder of the sheet behind a write or a strike of this grade."""
        # An end that lies in the sheet behind is its end, too.
        same = {size: self.ends[size] for size in self.ends if grade is not None and size >= grade}
        return Ladder(self.study, lots_behind(self.lots, move), same)

    def first_gone(self, most):
        """The first strike that fits and whose worth the end for MOST has not; None."""
        for place, (lot, left) in enumerate(zip(self.lots, self.end_for(most))):
            if BITS_IN[lot] > 1 and lot & ~left:
                return "strike", place, lowest_worth(lot & ~left)
        return None

    def hinted(self):
        """A pair: the hint at the sheet, its grade; None if there is none."""
        # Asked first: without a hint all numbers between would be tried for nothing.
        if self.first_gone(self.top) is None:
            return None
        most = 0
        while self.first_gone(most) is None:
            most += 1
        return self.first_gone(most), most


class Playing:
    """A game that is played: its moves, their grades, and the row of sheets that they leave, as ladders."""

    def __init__(self, puzzle):
        self.ladders = [Ladder(Study(puzzle[0]), begin_bits(puzzle[0], puzzle[1]), {})]
        self.moves = []
        self.grades = []

    def row(self):
        """The numbers of the lots of each sheet of the row."""
        return [ladder.lots for ladder in self.ladders]

    def hinted(self):
        """A pair: the hint at the sheet at hand, its grade; None if there is none."""
        return self.ladders[-1].hinted()

    def make(self, move):
        """Make a move that fits."""
        here = self.ladders[-1]
        self.add(move, 0 if is_undo(move) else here.grade_at(move[1], taken_by(here.lots, move)))

    def add(self, move, grade):
        """Make a move of this grade."""
        if is_undo(move):
            self.ladders.pop()
        else:
            self.ladders.append(self.ladders[-1].behind(move, grade))
        self.moves.append(move)
        self.grades.append(grade)

    def play_hints(self):
        """Play hints until there is none, or until the game is as long as it may be."""
        hinted = self.hinted()
        while hinted is not None and len(self.moves) < MOST_MOVES:
            self.add(hinted[0], hinted[1])
            hinted = self.hinted()
