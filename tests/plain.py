"""What the document says of claims and papers, told once more and as plainly as can be: for small kinds alone.

It takes for granted that the forms of kinds, sheets and puzzles are told rightly, which other tests try.
"""
import itertools

from helper import (Listed, all_lots, begin_plainly, fillings_plainly, fits_plainly, grade_plainly, holds_plainly,
                    is_cover_plainly, is_inside, is_number, is_reason_plainly, is_settled, is_tree_plainly, lots_for,
                    make_plainly, strikes_in, taken_plainly, whole_plainly, with_worth, without_worth)
from turned import givens_plainly, kind_plainly

from onefilling.kinds import is_filling, is_kind, is_puzzle, is_sheet
from onefilling.turns import is_turn

LENGTHS = {"fills": 3, "none": 2, "one": 3, "two": 2, "follows": 6, "follows not": 6, "least lot": 6, "end": 5,
           "hard up to": 3, "harder than": 3, "hardness": 3, "tight": 2, "idle": 3, "gap": 5, "fewest": 5,
           "reasoned up to": 4, "turned": 3}


def is_tuple(value, many):
    return type(value) is tuple and len(value) == many


def are_ascending(value, numbers):
    return type(value) is tuple and all(is_number(one, numbers) for one in value) and list(value) == sorted(set(value))


def is_full(kind, value):
    return is_filling(kind, value) and all(holds_plainly(kind, rule, value) for rule in kind[3])


def is_move(kind, value):
    if type(value) is tuple and value and type(value[0]) is str:
        if value[0] == "undo":
            return len(value) == 1
        return value[0] in ("write", "strike") and len(value) == 3 and is_number(value[1], range(kind[0] * kind[1])) \
            and is_number(value[2], range(1, kind[2] + 1))
    return False


def is_game_plainly(puzzle, value):
    row = [begin_plainly(puzzle)]
    if type(value) is not tuple or len(value) > 200:
        return False
    for move in value:
        if not is_move(puzzle[0], move) or not fits_plainly(row, move):
            return False
        row = make_plainly(row, move)
    return True


def is_claim(claim):
    """Whether the value is a claim by its form, be it so or not."""
    if type(claim) is not tuple or not claim or type(claim[0]) is not str or len(claim) != LENGTHS.get(claim[0]):
        return False
    word, *parts = claim
    if word in ("none", "two", "tight"):
        return is_puzzle(parts[0])
    if word == "one":
        return is_puzzle(parts[0]) and is_filling(parts[0][0], parts[1])
    if word in ("hard up to", "harder than", "hardness"):
        return is_puzzle(parts[0]) and is_number(parts[1], range(13))
    if word == "idle":
        return is_puzzle(parts[0]) and is_number(parts[1], [place for place, worth in parts[0][1]])
    if word == "reasoned up to":
        return is_puzzle(parts[0]) and is_game_plainly(parts[0], parts[1]) and is_number(parts[2], range(13))
    if word == "turned":
        return is_puzzle(parts[0]) and is_puzzle(parts[1])
    kind = parts[0]
    if not is_kind(kind):
        return False
    if word == "fills":
        return is_filling(kind, parts[1])
    if word in ("gap", "fewest"):
        if not is_full(kind, parts[1]) or not is_number(parts[2], range(13)):
            return False
        if word == "fewest":
            return type(parts[3]) is int and parts[3] >= 0
        return are_ascending(parts[3], range(kind[0] * kind[1])) and parts[3] != ()
    if not is_sheet(kind, parts[1]):
        return False
    if word == "end":
        return is_number(parts[2], range(13)) and is_sheet(kind, parts[3])
    lot, place, worth = parts[2:]
    if not are_ascending(lot, range(len(kind[3]))):
        return False
    return is_number(place, range(kind[0] * kind[1])) and is_number(worth, parts[1][place])


def least_plainly(right, sheet, lot, strike):
    """Whether the lot is a least one of the strike."""
    if not right.follows(sheet, lot, strike):
        return False
    return not any(right.follows(sheet, other, strike) for other in all_lots(len(right.kind[3])) if set(other) < set(lot))


def hardness_plainly(puzzle):
    right = Listed(puzzle[0], begin_plainly(puzzle))
    if len(fillings_plainly(puzzle)) != 1:
        return None
    most = 0
    while not is_settled(right.last(right.sheet, lots_for(puzzle[0], most))):
        most += 1
    return most


def without_given(puzzle, place):
    return puzzle[0], tuple(given for given in puzzle[1] if given[0] != place)


def spots(kind, filling, places):
    return kind, tuple((place, filling[place]) for place in places)


def fewest_plainly(kind, filling, most):
    right = Listed(kind, whole_plainly(kind))
    for lot in all_lots(kind[0] * kind[1]):
        if is_settled(right.last(begin_plainly(spots(kind, filling, lot)), lots_for(kind, most))):
            return len(lot)
    return None


def is_gap_plainly(kind, filling, most, places):
    """Whether some closed sheet in which the filling lies is unsettled at just these places: all are tried."""
    right = Listed(kind, whole_plainly(kind))
    worths = range(1, kind[2] + 1)
    lots = []
    for place, worth in enumerate(filling):
        others = [other for other in worths if other != worth]
        sizes = range(1, kind[2]) if place in places else [0]
        lots.append([tuple(sorted((worth,) + more)) for size in sizes for more in itertools.combinations(others, size)])
    return any(not right.ready(sheet, lots_for(kind, most)) for sheet in itertools.product(*lots))


def is_so(claim):
    """Whether a claim that has the form of one is so, by all fillings."""
    word, *parts = claim
    if word == "fills":
        return is_full(parts[0], parts[1])
    if word in ("none", "one", "two"):
        good = fillings_plainly(parts[0])
        return {"none": good == [], "one": good == [parts[-1]], "two": len(good) > 1}[word]
    if word in ("follows", "follows not", "least lot"):
        kind, sheet, lot, place, worth = parts
        right = Listed(kind, sheet)
        if word == "least lot":
            return least_plainly(right, sheet, lot, (place, worth))
        return right.follows(sheet, lot, (place, worth)) is (word == "follows")
    if word == "end":
        kind, sheet, most, last = parts
        return Listed(kind, sheet).last(sheet, lots_for(kind, most)) == last
    if word == "hard up to":
        return hardness_plainly(parts[0]) is not None and hardness_plainly(parts[0]) <= parts[1]
    if word == "hardness":
        return hardness_plainly(parts[0]) == parts[1]
    if word == "harder than":
        kind, sheet = parts[0][0], begin_plainly(parts[0])
        return any(len(lot) > 1 for lot in Listed(kind, sheet).last(sheet, lots_for(kind, parts[1])))
    if word == "tight":
        rests = [without_given(parts[0], place) for place, worth in parts[0][1]]
        return len(fillings_plainly(parts[0])) == 1 and all(len(fillings_plainly(rest)) > 1 for rest in rests)
    if word == "idle":
        return len(fillings_plainly(parts[0])) == 1 == len(fillings_plainly(without_given(*parts)))
    if word == "gap":
        return is_gap_plainly(*parts)
    if word == "fewest":
        return fewest_plainly(*parts[:3]) == parts[3]
    if word == "reasoned up to":
        puzzle, moves, most = parts
        row, right = [begin_plainly(puzzle)], Listed(puzzle[0], begin_plainly(puzzle))
        for move in moves:
            grade = 0 if move == ("undo",) else grade_plainly(right, row[-1], move)
            if grade is None or grade > most:
                return False
            row = make_plainly(row, move)
        return is_settled(row[-1])
    assert word == "turned"
    puzzle, other = parts
    exchanges = itertools.permutations(range(1, puzzle[0][2] + 1))
    return any(turns_to(puzzle, other, (how, exchange)) for exchange in exchanges for how in range(8))


def turns_to(puzzle, other, turn):
    """Whether the value is a turn that leads the puzzle to the other one, the rules in any order."""
    if not is_turn(puzzle[0], turn):
        return False
    turned = kind_plainly(puzzle[0], turn)
    return turned[:3] == other[0][:3] and sorted(map(repr, turned[3])) == sorted(map(repr, other[0][3])) \
        and givens_plainly(puzzle[0], turn, puzzle[1]) == other[1]


def led(kind, sheet, row, most):
    """The sheet to which the row of reasons leads; None if the value is no row."""
    if type(row) is not tuple:
        return None
    for reason in row:
        if not is_reason_plainly(kind, sheet, reason) or len(reason[0]) > most:
            return None
        sheet = without_worth(sheet, reason[1], reason[2])
    return sheet


def are_covers(kind, sheet, most, value):
    lots = lots_for(kind, most)
    return is_tuple(value, len(lots)) and all(is_cover_plainly(kind, sheet, lot, one) for lot, one in zip(lots, value))


def is_filling_at(kind, sheet, lot, value):
    return is_filling(kind, value) and is_inside(value, sheet) and all(holds_plainly(kind, kind[3][at], value) for at in lot)


def are_trees(puzzle, filling, value):
    """Whether the value is the trees of a paper for ("one", PUZZLE, FILLING), which has to be a filling of the puzzle."""
    kind, sheet = puzzle[0], begin_plainly(puzzle)
    every = tuple(range(len(kind[3])))
    if not is_filling_at(kind, sheet, every, filling) or not is_tuple(value, len(sheet)):
        return False
    for place, trees in enumerate(value):
        others = [worth for worth in sheet[place] if worth != filling[place]]
        if not is_tuple(trees, len(others)):
            return False
        if not all(is_tree_plainly(kind, with_worth(sheet, place, worth), every, tree)
                   for worth, tree in zip(others, trees)):
            return False
    return True


def is_gap_tree(kind, filling, most, many, settled, value):
    """Whether the value is a tree of gaps, by the words of [27]."""
    if not is_tuple(value, 3) or not is_sheet(kind, value[0]):
        return False
    sheet, covers, trees = value
    if not is_inside(filling, sheet) or is_settled(sheet) or any(len(sheet[place]) != 1 for place in settled):
        return False
    if not are_covers(kind, sheet, most, covers):
        return False
    if len(settled) == many - 1:
        return trees == () and type(trees) is tuple
    loose = [place for place, lot in enumerate(sheet) if len(lot) != 1]
    return is_tuple(trees, len(loose)) and all(is_gap_tree(kind, filling, most, many, settled + [place], tree)
                                               for place, tree in zip(loose, trees))


def is_paper(claim, paper):
    """Whether the paper is one for a claim that has the form of one, by the words of [34]."""
    word, *parts = claim
    if word == "fills":
        return is_full(*parts) and type(paper) is tuple and paper == ()
    kind = parts[0] if is_kind(parts[0]) else parts[0][0]
    every = tuple(range(len(kind[3])))
    if word in ("follows", "follows not", "least lot"):
        sheet, lot, place, worth = parts[1:]
        alone = with_worth(sheet, place, worth)
        if word == "follows":
            return is_reason_plainly(kind, sheet, (lot, place, worth, paper))
        if word == "follows not":
            return is_filling_at(kind, alone, lot, paper)
        return is_tuple(paper, 2) and is_reason_plainly(kind, sheet, (lot, place, worth, paper[0])) and \
            is_tuple(paper[1], len(lot)) and all(is_filling_at(kind, alone, [one for one in lot if one != rule], filling)
                                                 for rule, filling in zip(lot, paper[1]))
    if word == "end":
        sheet, most, last = parts[1:]
        return is_tuple(paper, 2) and led(kind, sheet, paper[0], most) == last and are_covers(kind, last, most, paper[1])
    if word == "gap":
        filling, most, places = parts[1:]
        return is_tuple(paper, 2) and is_sheet(kind, paper[0]) and is_inside(filling, paper[0]) and \
            tuple(place for place, lot in enumerate(paper[0]) if len(lot) > 1) == places and \
            are_covers(kind, paper[0], most, paper[1])
    if word == "fewest":
        filling, most, many = parts[1:]
        if not is_tuple(paper, 3) or not are_ascending(paper[0], range(len(filling))) or len(paper[0]) != many:
            return False
        left = led(kind, begin_plainly(spots(kind, filling, paper[0])), paper[1], most)
        if left is None or not is_settled(left):
            return False
        return is_gap_tree(kind, filling, most, many, [], paper[2]) if many else type(paper[2]) is tuple and paper[2] == ()
    return is_paper_for_puzzle(word, parts, kind, every, paper)


def is_paper_for_puzzle(word, parts, kind, every, paper):
    puzzle = parts[0]
    sheet = begin_plainly(puzzle)
    if word == "none":
        return is_tree_plainly(kind, sheet, every, paper)
    if word == "one":
        return are_trees(puzzle, parts[1], paper)
    if word == "two":
        return is_tuple(paper, 2) and all(is_filling_at(kind, sheet, every, one) for one in paper) and paper[0] != paper[1]
    if word == "hard up to":
        return is_row_up_to(puzzle, parts[1], paper)
    if word == "harder than":
        return is_above(puzzle, parts[1], paper)
    if word == "hardness":
        return is_tuple(paper, 2) and is_row_up_to(puzzle, parts[1], paper[0]) and \
            (is_above(puzzle, parts[1] - 1, paper[1]) if parts[1] else paper[1] is None)
    if word == "tight":
        if not is_tuple(paper, 3) or not is_tuple(paper[2], len(puzzle[1])):
            return False
        for (place, worth), filling in zip(puzzle[1], paper[2]):
            if not is_filling_at(kind, begin_plainly(without_given(puzzle, place)), every, filling) or filling[place] == worth:
                return False
        return are_trees(puzzle, paper[0], paper[1])
    if word == "idle":
        return is_tuple(paper, 2) and are_trees(without_given(puzzle, parts[1]), paper[0], paper[1]) and \
            paper[0][parts[1]] == dict(puzzle[1])[parts[1]]
    if word == "turned":
        return is_turn(kind, paper) and turns_to(puzzle, parts[1], paper)
    assert word == "reasoned up to"
    moves, most = parts[1:]
    row = [sheet]
    if not is_tuple(paper, len(moves)):
        return False
    for move, reasons in zip(moves, paper):
        if move == ("undo",):
            if type(reasons) is not tuple or reasons != ():
                return False
        else:
            left = led(kind, row[-1], reasons, most)
            if left is None or any(worth in left[place] for place, worth in taken_plainly(row[-1], move)):
                return False
        row = make_plainly(row, move)
    return is_settled(row[-1])


def is_row_up_to(puzzle, most, row):
    left = led(puzzle[0], begin_plainly(puzzle), row, most)
    return left is not None and is_settled(left) and is_full(puzzle[0], tuple(lot[0] for lot in left))


def is_above(puzzle, most, paper):
    if not is_tuple(paper, 2) or not is_sheet(puzzle[0], paper[0]):
        return False
    within = set(strikes_in(paper[0])) <= set(strikes_in(begin_plainly(puzzle)))
    return within and any(len(lot) > 1 for lot in paper[0]) and are_covers(puzzle[0], paper[0], most, paper[1])


def is_large(claim):
    """Whether a claim that has the form of one is about a kind of which not all fillings are soon listed."""
    if not is_claim(claim):
        return False
    kind = claim[1] if is_kind(claim[1]) else claim[1][0]
    return kind[2] ** (kind[0] * kind[1]) > 1000


def accepts_plainly(claim, paper):
    """Whether the claim is one, and the paper one for it."""
    return is_claim(claim) and is_paper(claim, paper)
