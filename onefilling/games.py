"""Games: moves that fit, the sheets that they leave, their grades, and hints."""

from onefilling.bits import begin_bits, sheet_bits, sheet_of
from onefilling.checks import check_kind, check_move, check_moves, check_puzzle, check_sheet
from onefilling.ladder import Ladder, Playing
from onefilling.moves import lots_at_hand, taken_by, wrong_move
from onefilling.study import Study


def is_game(puzzle, value):
    """Whether the value, whatever it is, is a game of the puzzle."""
    check_puzzle(puzzle)
    return isinstance(value, tuple) and wrong_move(begin_bits(puzzle[0], puzzle[1]), value) is None


def sheets(puzzle, moves):
    """The tuple of the sheets at hand, from the begin sheet on, behind each move."""
    return tuple([sheet_of(lots) for lots in _lots_of_game(puzzle, moves)])


def grade_of(kind, sheet, move):
    """The grade of a write or a strike at a sheet; None."""
    check_kind(kind)
    check_sheet(kind, sheet)
    check_move(sheet, move)
    lots = sheet_bits(sheet)
    return Ladder(Study(kind), lots, {}).grade_at(move[1], taken_by(lots, move))


def grades(puzzle, moves):
    """The tuple of the moves' grades."""
    check_puzzle(puzzle)
    check_moves(puzzle, moves)
    playing = Playing(puzzle)
    for move in moves:
        playing.make(move)
    return tuple(playing.grades)


def reasoned(puzzle, moves):
    """The greatest grade of the moves, 0 for no moves; None if a grade is None."""
    told = grades(puzzle, moves)
    return None if None in told else max(told, default=0)


def hint(puzzle, moves):
    """The hint at the sheet at hand; None if there is none."""
    lots = _lots_of_game(puzzle, moves)[-1]
    hinted = Ladder(Study(puzzle[0]), lots, {}).hinted()
    return None if hinted is None else hinted[0]


def game_by_hints(puzzle):
    """The game of hints alone, up to 200, until there is none."""
    check_puzzle(puzzle)
    playing = Playing(puzzle)
    playing.play_hints()
    return tuple(playing.moves)


def _lots_of_game(puzzle, moves):
    check_puzzle(puzzle)
    check_moves(puzzle, moves)
    return lots_at_hand(begin_bits(puzzle[0], puzzle[1]), moves)
