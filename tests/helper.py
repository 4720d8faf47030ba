"""What the document says of rules, told once more and as plainly as can be, and kinds to try things with.

Nothing here is taken from the package, so that the package can be compared with it.
"""
import itertools
import random

SORTS = ("unlike", "sum", "below", "steps", "count", "words", "runs", "seen", "joined")


class Raised:
    """The error that a call raised: its class and its attributes."""

    def __init__(self, error):
        self.kind = type(error)
        self.told = dict(vars(error))


def error_of(function, *values, **named):
    """The error that the call raises, None if it raises none."""
    try:
        function(*values, **named)
    except Exception as error:  # the tests look at its class
        return Raised(error)
    return None


def are_neighbours(kind, first, second):
    (row, column), (other_row, other_column) = divmod(first, kind[1]), divmod(second, kind[1])
    return abs(row - other_row) + abs(column - other_column) == 1


def hangs_together(kind, places):
    """Whether each place is come to from the first one by neighbours among the places."""
    if not places:
        return True
    come_to = {places[0]}
    while True:
        more = {place for place in places if any(are_neighbours(kind, place, other) for other in come_to)}
        if more <= come_to:
            return come_to == set(places)
        come_to |= more


def stretches(signs):
    return tuple(len(list(group)) for sign, group in itertools.groupby(signs) if sign)


def holds_plainly(kind, rule, filling):
    """Whether the rule holds for the filling, by the words of [7]."""
    sort, parts = rule[0], rule[1:]
    if sort == "unlike":
        return all(filling[p] != filling[q] for p, q in itertools.combinations(parts[0], 2))
    if sort == "sum":
        return parts[1] <= sum(filling[p] for p in parts[0]) <= parts[2]
    if sort == "below":
        return filling[parts[0]] < filling[parts[1]]
    if sort == "steps":
        both = (filling[parts[0]], filling[parts[1]])
        return parts[2] <= max(both) - min(both) <= parts[3]
    if sort == "count":
        return parts[2] <= len([p for p in parts[0] if filling[p] in parts[1]]) <= parts[3]
    if sort == "words":
        return tuple(filling[p] for p in parts[0]) in parts[1]
    if sort == "runs":
        return stretches([filling[p] == parts[1] for p in parts[0]]) == parts[2]
    if sort == "seen":
        way = parts[0]
        return len([k for k in range(len(way)) if all(filling[p] < filling[way[k]] for p in way[:k])]) == parts[1]
    assert sort == "joined"
    return hangs_together(kind, [p for p in range(kind[0] * kind[1]) if filling[p] in parts[0]])


def all_in(sheet):
    """All fillings that lie in the sheet, ascending."""
    return list(itertools.product(*sheet))


def good_in(kind, sheet, lot):
    """All fillings in the sheet that make all rules of the lot hold, ascending."""
    rules = [kind[3][index] for index in lot]
    return [filling for filling in all_in(sheet) if all(holds_plainly(kind, rule, filling) for rule in rules)]


def all_lots(many):
    """All lots of so many rules."""
    return [lot for size in range(many + 1) for lot in itertools.combinations(range(many), size)]


def lots_for(kind, most):
    """The lots of [18]: all of just MOST rules, of all rules if there are fewer."""
    many = len(kind[3])
    return list(itertools.combinations(range(many), min(most, many)))


def with_worth(sheet, place, worth):
    return sheet[:place] + ((worth,),) + sheet[place + 1:]


def without_worth(sheet, place, worth):
    return sheet[:place] + (tuple(other for other in sheet[place] if other != worth),) + sheet[place + 1:]


def strikes_in(sheet):
    return [(place, worth) for place, lot in enumerate(sheet) for worth in lot]


def is_inside(filling, sheet):
    return all(worth in lot for worth, lot in zip(filling, sheet))


class Listed:
    """All fillings in a sheet, each with the rules that it meets: from them one sees what follows in sheets within."""

    def __init__(self, kind, sheet):
        self.kind = kind
        self.sheet = sheet
        self.told = [(filling, {index for index, rule in enumerate(kind[3]) if holds_plainly(kind, rule, filling)})
                     for filling in all_in(sheet)]

    def follows(self, sheet, lot, strike):
        """[13]: no filling in the sheet that meets the lot's rules has the worth there."""
        return not any(filling[strike[0]] == strike[1] and is_inside(filling, sheet) and met.issuperset(lot)
                       for filling, met in self.told)

    def ready(self, sheet, lots):
        """The strikes of the sheet that follow from one of the lots, ascending."""
        here = [(filling, met) for filling, met in self.told if is_inside(filling, sheet)]
        following = set()
        for lot in lots:
            backed = {spot for filling, met in here if met.issuperset(lot) for spot in enumerate(filling)}
            following.update(set(strikes_in(sheet)) - backed)
        return sorted(following)

    def end(self, sheet, lots, pick=min):
        """[16]: the end of the sheet, and how many strikes are made, PICK choosing the next one."""
        many = 0
        ready = self.ready(sheet, lots)
        while ready:
            sheet = without_worth(sheet, *pick(ready))
            many += 1
            ready = self.ready(sheet, lots)
        return sheet, many

    def last(self, sheet, lots):
        """The end of the sheet, by rounds of all strikes that follow."""
        ready = self.ready(sheet, lots)
        while ready:
            sheet = tuple(tuple(worth for worth in lot if (place, worth) not in ready) for place, lot in enumerate(sheet))
            ready = self.ready(sheet, lots)
        return sheet

    def least(self, sheet, strike):
        """[14]: all least lots of the strike, ascending."""
        lots = [lot for lot in all_lots(len(self.kind[3])) if self.follows(sheet, lot, strike)]
        return sorted(lot for lot in lots if not any(set(other) < set(lot) for other in lots))


def is_reason_plainly(kind, sheet, value):
    """Whether the value is a reason, by the words of [15]."""
    if type(value) is not tuple or len(value) != 4:
        return False
    lot, place, worth, tree = value
    if type(lot) is not tuple or not all(is_number(index, range(len(kind[3]))) for index in lot):
        return False
    if list(lot) != sorted(set(lot)) or not is_number(place, range(len(sheet))) or not is_number(worth, sheet[place]):
        return False
    return is_tree_plainly(kind, with_worth(sheet, place, worth), lot, tree)


def is_cover_plainly(kind, sheet, lot, value):
    """Whether the value is a cover, by the words of [17]."""
    if type(value) is not tuple or len(value) > 96:
        return False
    for filling in value:
        if type(filling) is not tuple or len(filling) != len(sheet):
            return False
        if not all(is_number(worth, own) for worth, own in zip(filling, sheet)):
            return False
        if not all(holds_plainly(kind, kind[3][index], filling) for index in lot):
            return False
    return {spot for filling in value for spot in enumerate(filling)} == set(strikes_in(sheet))


def led_plainly(test, kind, sheet, row, most):
    """The sheet to which a row of reasons leads, each of them tried by the words of [15], with up to MOST rules."""
    test.assertIs(type(row), tuple)
    for reason in row:
        test.assertTrue(is_reason_plainly(kind, sheet, reason), (kind, sheet, reason))
        test.assertLessEqual(len(reason[0]), most)
        sheet = without_worth(sheet, reason[1], reason[2])
    return sheet


def is_number(value, numbers):
    return type(value) is int and value in numbers


def is_tree_plainly(kind, sheet, lot, value, deep=20):
    """Whether the value is a tree, by the words of [10]; barred is asked of all fillings, one by one."""
    if type(value) is not tuple or len(value) not in (2, 3) or type(value[0]) is not str:
        return False
    if value[0] == "void" and len(value) == 2:
        return is_number(value[1], range(len(sheet))) and sheet[value[1]] == ()
    if value[0] == "rule" and len(value) == 2:
        return is_number(value[1], lot) and not good_in(kind, sheet, (value[1],))
    if value[0] != "cases" or len(value) != 3 or not is_number(value[1], range(len(sheet))) or deep == 0:
        return False
    place, trees = value[1:]
    if type(trees) is not tuple or len(trees) != len(sheet[place]):
        return False
    return all(is_tree_plainly(kind, with_worth(sheet, place, worth), lot, tree, deep - 1)
               for worth, tree in zip(sheet[place], trees))


def some_places(dice, places, fewest):
    return tuple(sorted(dice.sample(range(places), dice.randint(fewest, places))))


def some_way(dice, places):
    return tuple(dice.sample(range(places), dice.randint(1, places)))


def some_lot(dice, worths):
    return tuple(sorted(dice.sample(range(1, worths + 1), dice.randint(1, worths))))


def some_rule(dice, places, worths, sort):
    """A rule of this sort; where there is one place alone, not unlike, below or steps."""
    if sort == "unlike":
        return (sort, some_places(dice, places, 2))
    if sort == "sum":
        among = some_places(dice, places, 1)
        low = dice.randint(0, len(among) * worths + 1)
        return (sort, among, low, low + dice.randint(0, 3))
    if sort == "below":
        return (sort, *dice.sample(range(places), 2))
    if sort == "steps":
        low = dice.randint(0, worths - 1)
        return (sort, *dice.sample(range(places), 2), low, low + dice.randint(0, 2))
    if sort == "count":
        among = some_places(dice, places, 1)
        low = dice.randint(0, len(among))
        return (sort, among, some_lot(dice, worths), low, low + dice.randint(0, 2))
    if sort == "words":
        way = some_way(dice, places)
        words = {tuple(dice.randint(1, worths) for _ in way) for _ in range(dice.randint(1, 9))}
        return (sort, way, tuple(sorted(words)))
    if sort == "runs":
        way = some_way(dice, places)
        lengths = [dice.randint(1, max(1, len(way) // 2)) for _ in range(dice.randint(0, (len(way) + 1) // 2))]
        return (sort, way, dice.randint(1, worths), tuple(lengths))
    if sort == "seen":
        return (sort, some_way(dice, places), dice.randint(1, min(places, worths)))
    return (sort, some_lot(dice, worths))


FLOORS = ((1, 1), (1, 2), (2, 1), (2, 2), (1, 4), (4, 1), (2, 3), (3, 2), (3, 3), (2, 4))


def most_worths(places):
    """How many worths there may be so that all fillings are soon listed."""
    return 6 if places <= 3 else 4 if places <= 4 else 3 if places <= 6 else 2


def some_kind(dice, most_rules=5):
    rows, columns = dice.choice(FLOORS)
    places = rows * columns
    worths = dice.randint(2, most_worths(places))
    sorts = SORTS if places > 1 else ("sum", "count", "words", "runs", "seen", "joined")
    rules = [some_rule(dice, places, worths, dice.choice(sorts)) for _ in range(dice.randint(0, most_rules))]
    return (rows, columns, worths, tuple(rules))


def some_sheet(dice, kind, voids=0.02):
    """A sheet of the kind; each lot is void with this likelihood."""
    lots = []
    for _ in range(kind[0] * kind[1]):
        lots.append(() if dice.random() < voids else some_lot(dice, kind[2]))
    return tuple(lots)


def latin(size, worths):
    """Rows and columns of unlike worths."""
    rows = [tuple(range(row * size, row * size + size)) for row in range(size)]
    columns = [tuple(range(column, size * size, size)) for column in range(size)]
    return (size, size, worths, tuple(("unlike", line) for line in rows + columns))


def pair_rule(dice, filling, worths):
    """A rule of two places, that does not tell much alone; for the filling it mostly holds."""
    one, two = dice.sample(range(len(filling)), 2)
    words = {(filling[one], filling[two])}
    for _ in range(dice.randint(1, worths * worths // 2 + 1)):
        words.add((dice.randint(1, worths), dice.randint(1, worths)))
    both = tuple(sorted((one, two)))
    low = filling[one] + filling[two]
    return dice.choice((("words", (one, two), tuple(sorted(words))), ("words", (one, two), tuple(sorted(words))),
                        ("steps", one, two, 1, 2), ("unlike", both), ("sum", both, low, low + 1)))


def pairs_kind(dice):
    """A kind of rules that tell little alone, but something together; mostly it has a filling."""
    kind = dice.choice(((1, 3, 3), (2, 2, 3), (2, 2, 4), (1, 4, 3), (2, 3, 2), (3, 2, 3))) + ((),)
    filling = tuple(dice.randint(1, kind[2]) for _ in range(kind[0] * kind[1]))
    rules = [pair_rule(dice, filling, kind[2]) for _ in range(dice.randint(3, 9))]
    return kind[:3] + (tuple(rule for rule in rules if holds_plainly(kind, rule, filling)),)


def some_givens(dice, filling, many):
    """So many pairs of a place and its worth."""
    return tuple(sorted(dice.sample(list(enumerate(filling)), many)))


def tries(seed, many):
    """So many pairs of a kind and a sheet of it, the same ones each time."""
    dice = random.Random(seed)
    for _ in range(many):
        kind = some_kind(dice)
        yield dice, kind, some_sheet(dice, kind)


def listed(seed, many, voids=0.02, most_rules=4):
    """So many small kinds with sheets, and all fillings in them."""
    dice = random.Random(seed)
    for _ in range(many):
        kind = some_kind(dice, most_rules)
        sheet = some_sheet(dice, kind, voids)
        yield dice, kind, sheet, Listed(kind, sheet)


def nested(deep, inmost=()):
    """A tuple in a tuple in a tuple, so deep."""
    value = inmost
    for _ in range(deep):
        value = (value,)
    return value


# Values that are nothing that the package asks for, of all kinds that may be passed.
STRANGE = (
    None, True, False, 0, 1, -1, 7, 10 ** 399, -10 ** 399, "", "kind", "unlike", b"", b"unlike", [], {}, (), set(),
    [1, 2], (1,), (None,), ((),), ([],), ({},), {"a": 1}, {1: (2,)}, {1, 2}, "\n", ("unlike",), ("unlike", (0, 1)),
    ["unlike", (0, 1)], (b"unlike", (0, 1)), ("cases", 0, ()), ("rule", 0), ("void", 0), ("rule", [0]), ("void", None),
    ("cases", 0, [("rule", 0)]), ("cases", {}, {}), ([], 0), ({}, (0, 1)), (("unlike",), (0, 1)), ((), ()), nested(59),
    nested(59, "x"), nested(58, []), (nested(40), {"a": nested(40)}), tuple(range(1000)), ((1, 2),) * 1000, "x" * 20000,
    object(), len, int, Ellipsis, range(3), frozenset((1, 2)), bytearray(b"x"),
)


def is_settled(sheet):
    return all(len(lot) == 1 for lot in sheet)


def whole_plainly(kind):
    return (tuple(range(1, kind[2] + 1)),) * (kind[0] * kind[1])


def begin_plainly(puzzle):
    kind, givens = puzzle
    told = dict(givens)
    whole = whole_plainly(kind)
    return tuple((told[place],) if place in told else whole[place] for place in range(len(whole)))


def fillings_plainly(puzzle):
    """All fillings of a puzzle, by the words of [11]."""
    kind = puzzle[0]
    return good_in(kind, begin_plainly(puzzle), range(len(kind[3])))


def some_full_filling(dice, kind):
    """A filling that fills the kind; None if there is none."""
    good = fillings_plainly((kind, ()))
    return dice.choice(good) if good else None


def filled_kinds(seed, many, most_places=6, most_rules=4):
    """So many pairs of a small kind and a filling that fills it."""
    dice = random.Random(seed)
    while many > 0:
        kind = pairs_kind(dice) if dice.random() < .4 else some_kind(dice, most_rules)
        if kind[0] * kind[1] <= most_places:
            kind = kind[:3] + (kind[3][:most_rules],)
            filling = some_full_filling(dice, kind)
            if filling is not None:
                many -= 1
                yield dice, kind, filling


def lots_of_places(kind):
    return all_lots(kind[0] * kind[1])


def sheets_with(kind, filling):
    """All sheets of the kind in which the filling lies."""
    whole = whole_plainly(kind)
    lots = [[tuple(sorted((worth,) + more)) for size in range(kind[2]) for more in
             itertools.combinations([other for other in whole[0] if other != worth], size)] for worth in filling]
    return itertools.product(*lots)


def least_of_all(lots):
    """Those of the lots within which no other one lies, ascending."""
    return tuple(sorted(lot for lot in lots if not any(set(other) < set(lot) for other in lots)))


def meets(lot, other):
    return bool(set(lot) & set(other))


def fits_plainly(row, move):
    """Whether a tuple that has the form of a move fits the row of sheets, by the words of [28]."""
    if move == ("undo",):
        return len(row) > 1
    return len(row[-1][move[1]]) > 1 and move[2] in row[-1][move[1]]


def make_plainly(row, move):
    """The row behind the move."""
    if move == ("undo",):
        return row[:-1]
    make = with_worth if move[0] == "write" else without_worth
    return row + [make(row[-1], move[1], move[2])]


def fitting_moves(row):
    """All moves that fit the row."""
    moves = [("undo",)] + [(word, place, worth) for word in ("write", "strike")
                           for place, worth in strikes_in(row[-1])]
    return [move for move in moves if fits_plainly(row, move)]


def some_game(dice, puzzle, many, undone=.2):
    """Up to so many moves, each of which fits; undo with this likelihood."""
    row, moves = [begin_plainly(puzzle)], []
    while len(moves) < many:
        fitting = fitting_moves(row)
        if not fitting:
            break
        move = dice.choice(fitting)
        if len(row) > 1 and (dice.random() < undone or not fitting[1:]):
            move = ("undo",)
        elif len(fitting) > 1 and move == ("undo",):
            move = dice.choice(fitting[1:])
        row = make_plainly(row, move)
        moves.append(move)
    return tuple(moves)


def taken_plainly(sheet, move):
    """The strikes that a write or a strike takes away."""
    if move[0] == "strike":
        return [move[1:]]
    return [(move[1], worth) for worth in sheet[move[1]] if worth != move[2]]


def grade_plainly(right, sheet, move):
    """The grade of a move at a sheet, by the words of [29]; RIGHT lists all fillings."""
    for most in range(len(right.kind[3]) + 1):
        left = right.last(sheet, lots_for(right.kind, most))
        if not any(worth in left[place] for place, worth in taken_plainly(sheet, move)):
            return most
    return None
