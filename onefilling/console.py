"""The console: commands, and what is answered to them, over a puzzle at hand and a game of it."""

from onefilling.bits import sheet_of
from onefilling.errors import InvalidCommands
from onefilling.hardness import hardness
from onefilling.judge import is_settled
from onefilling.ladder import Playing
from onefilling.moves import MOST_MOVES, fits_row
from onefilling.shown import shown, shown_names
from onefilling.singles import idle_places
from onefilling.study import Study
from onefilling.writing import figures, in_rows

MOST_COMMANDS = 100
MOST_FIGURES = 3
NO_SUCH = ("no such command",)


def said(commands):
    """The answers to the commands, in order."""
    if not isinstance(commands, tuple):
        raise InvalidCommands(None)
    for at, command in enumerate(commands):
        if at == MOST_COMMANDS or not isinstance(command, str):
            raise InvalidCommands(at)
    console = Console()
    return tuple([console.answer(command) for command in commands])


class Console:
    """The puzzle at hand, and a game of it; None at first."""

    def __init__(self):
        self.puzzle = None
        self.playing = None

    def answer(self, command):
        """The texts that are answered to a command."""
        words = command.split(" ")
        if words[0] == "show":
            return self.showing(words[1]) if len(words) == 2 and words[1] in shown_names() else NO_SUCH
        if not _is_command(words):
            return NO_SUCH
        if self.puzzle is None:
            return ("no puzzle",)
        told = ANSWERS[words[0]]
        return told(self, words)

    def showing(self, name):
        """Have a shown puzzle at hand, with no moves."""
        kind, _, givens = shown(name)
        self.puzzle = (kind, givens)
        self.playing = Playing(self.puzzle)
        return (f"{name} {kind[0]} by {kind[1]}, {len(givens)} givens",)


def _is_command(words):
    """Whether the words are a command other than show."""
    if words[0] in ("write", "strike"):
        return len(words) == 3 and _is_figure_number(words[1]) and _is_figure_number(words[2])
    return len(words) == 1 and words[0] in ANSWERS


def _is_figure_number(word):
    """Whether the word is a number in up to three figures without noughts ahead."""
    if not word.isascii() or not word.isdigit() or len(word) > MOST_FIGURES:
        return False
    return word == "0" or word[0] != "0"


def _grade_text(grade):
    """How a grade is told."""
    return "grade none" if grade is None else f"grade {grade}"


def _sheet(console, words):
    kind = console.puzzle[0]
    sheet = sheet_of(console.playing.ladders[-1].lots)
    return tuple(in_rows(kind, [figures(lot) or "-" for lot in sheet]))


def _move(console, words):
    move = (words[0],) + tuple([int(word) for word in words[1:]])
    playing = console.playing
    if len(playing.moves) >= MOST_MOVES or not fits_row(playing.row(), move):
        return ("does not fit",)
    playing.make(move)
    return (_grade_text(playing.grades[-1]),)


def _hint(console, words):
    hinted = console.playing.hinted()
    if hinted is None:
        return ("no hint",)
    _, place, worth = hinted[0]
    grade = _grade_text(hinted[1])
    return (f"strike {place} {worth} {grade}",)


def _play(console, words):
    playing = console.playing
    before = len(playing.moves)
    playing.play_hints()
    played = playing.grades[before:]
    greatest = _grade_text(max(played, default=0))
    return (f"{len(played)} moves, {greatest}",)


def _judge(console, words):
    playing = console.playing
    settled = "settled" if is_settled(playing.ladders[-1].lots) else "open"
    if None in playing.grades:
        return settled, "not reasoned"
    greatest = max(playing.grades, default=0)
    return settled, f"reasoned up to {greatest}"


def _hardness(console, words):
    told = hardness(console.puzzle)
    return (f"hardness {told}",)


def _idle(console, words):
    kind, givens = console.puzzle
    places = idle_places(Study(kind), givens)
    if not places:
        return ("tight",)
    return (" ".join(["idle"] + [str(place) for place in places]),)


ANSWERS = {
    "sheet": _sheet,
    "write": _move,
    "strike": _move,
    "undo": _move,
    "hint": _hint,
    "play": _play,
    "judge": _judge,
    "hardness": _hardness,
    "idle": _idle,
}
