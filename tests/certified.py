"""Claims and papers of all sorts, that certificates makes for small kinds, and ways to bend values at one place."""
import random

from helper import pairs_kind, some_full_filling, some_game, some_givens, some_kind, some_sheet, strikes_in, whole_plainly
from turned import turns_of

from onefilling.certificates import (certify_end, certify_fewest, certify_fillings, certify_follows, certify_game,
                                     certify_gap, certify_hard, certify_hardness, certify_least, certify_tight,
                                     certify_turned)
from onefilling.errors import NotOne
from onefilling.games import game_by_hints
from onefilling.makers import made, puzzle_from

WORDS = ("fills", "none", "one", "two", "follows", "follows not", "least lot", "end", "hard up to", "harder than",
         "hardness", "tight", "idle", "gap", "fewest", "reasoned up to", "turned")


def some_small_kind(dice, most_fillings=81, most_rules=4):
    """A small kind, half of the time of rules that tell little alone."""
    while True:
        kind = pairs_kind(dice) if dice.random() < .5 else some_kind(dice, most_rules)
        if kind[2] ** (kind[0] * kind[1]) <= most_fillings:
            return kind[:3] + (kind[3][:most_rules],)


def some_claims(dice, kind):
    """Claims about this kind and their papers, by each function of certificates, as far as there are some."""
    filling = some_full_filling(dice, kind)
    whole = whole_plainly(kind)
    other = tuple(dice.choice(lot) for lot in whole)
    base = other if filling is None or dice.random() < .3 else filling
    puzzle = (kind, some_givens(dice, base, dice.choice((0, 0, 1, dice.randint(0, len(base))))))
    if base == filling and dice.random() < .5:
        puzzle = some_told_puzzle(dice, kind, filling)
    sheet = whole if dice.random() < .3 else some_sheet(dice, kind)
    most = dice.choice((0, 1, 1, 2, 2, 3, 12))
    told = [certify_fillings(puzzle), certify_end(kind, sheet, most), certify_hard(puzzle, most),
            certify_turned(puzzle, dice.choice(turns_of(kind)))]
    try:
        told += [certify_hardness(puzzle), certify_tight(puzzle)]
    except NotOne:
        pass
    if strikes_in(sheet):
        strike = dice.choice(strikes_in(sheet))
        lot = tuple(index for index in range(len(kind[3])) if dice.random() < .6)
        told += [certify_follows(kind, sheet, lot, strike), certify_least(kind, sheet, strike, 12)]
    if filling is not None:
        told += [(("fills", kind, filling), ()), certify_gap(kind, filling, most), certify_fewest(kind, filling, most)]
    told += [certify_game(puzzle, game_by_hints(puzzle)), certify_game(puzzle, some_game(dice, puzzle, 8)),
             certify_game(puzzle, writes(dice, puzzle, base))]
    return [one for one in told if one is not None]


def some_told_puzzle(dice, kind, filling):
    """A puzzle with this one filling: a tight one, or one with a given too many."""
    lot = made(kind, filling, 12, tuple(dice.sample(range(len(filling)), len(filling))))
    more = [dice.randrange(len(filling))] if dice.random() < .4 else []
    return puzzle_from(kind, filling, tuple(sorted({*lot, *more})))


def writes(dice, puzzle, filling):
    """A game that writes the filling, with something undone now and then."""
    given = dict(puzzle[1])
    moves = []
    for place, worth in dice.sample(list(enumerate(filling)), len(filling)):
        if place not in given:
            if dice.random() < .3:
                moves += [("write", place, dice.randint(1, puzzle[0][2])), ("undo",)]
            moves.append(("write", place, worth))
    return tuple(moves)


def certified(seed, many, most_fillings=81):
    """For so many small kinds claims and papers that were made."""
    dice = random.Random(seed)
    for _ in range(many):
        for claim, paper in some_claims(dice, some_small_kind(dice, most_fillings)):
            yield dice, claim, paper


def parts_of(value, path=()):
    """The paths to all parts of a value, its own, (), too."""
    yield path
    if type(value) is tuple:
        for at, part in enumerate(value):
            yield from parts_of(part, path + (at,))


def part_at(value, path):
    for at in path:
        value = value[at]
    return value


def with_part(value, path, part):
    """The value with this part at the path."""
    if not path:
        return part
    return value[:path[0]] + (with_part(value[path[0]], path[1:], part),) + value[path[0] + 1:]


def bent(dice, value):
    """The value with something else at one place."""
    path = dice.choice(list(parts_of(value)))
    part = part_at(value, path)
    return with_part(value, path, dice.choice(instead_of(dice, part)))


def instead_of(dice, part):
    """What may stand instead of a part."""
    if type(part) is int:
        others = [part + 1, part - 1, str(part), (part,), None, dice.randint(0, 6), -part]
        return others + [part == 1] * 2 if part in (0, 1) else others
    if type(part) is str:
        return [part + " ", part.upper(), "void", "rule", "cases", "write", "strike", "undo", dice.choice(WORDS), None, ()]
    if part is None:
        return [(), 0, False, (None,)]
    if type(part) is not tuple:
        return [()]
    others = [list(part), part + (dice.choice(part) if part else (),), None, 0, (part,)]
    if part:
        at, other = dice.randrange(len(part)), dice.randrange(len(part))
        exchanged = list(part)
        exchanged[at], exchanged[other] = exchanged[other], exchanged[at]
        left_out = part[:at] + part[at + 1:]
        others += [left_out, left_out, tuple(exchanged), part[:at] + (part[other],) + part[at + 1:], (), part[at]]
        others += [part[:at + 1] + part[at:]]
    return others
