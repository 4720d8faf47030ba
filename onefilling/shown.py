"""Three puzzles to show, each with its name. Of each it is told: (KIND, FILLING, GIVENS)."""

from onefilling.errors import InvalidName

# Hills of unlike heights in each row: from two sides two are seen; the first ones of both rows hide one another.
HILLS = (
    (2, 3, 3, (
        ("unlike", (0, 1, 2)),
        ("unlike", (3, 4, 5)),
        ("seen", (3, 0), 1),
        ("seen", (0, 3), 1),
        ("seen", (5, 4, 3), 2),
        ("seen", (5, 2), 2),
    )),
    (2, 1, 3, 2, 3, 1),
    ((1, 1),),
)
# The 2s are a path that hangs together, and so is what is left beside it.
PATHS = (
    (3, 3, 2, (
        ("joined", (2,)),
        ("joined", (1,)),
        ("count", (1, 4, 7), (2,), 1, 1),
        ("runs", (0, 1, 2), 2, (1,)),
        ("runs", (6, 7, 8), 2, (1,)),
    )),
    (2, 1, 1, 2, 2, 1, 2, 1, 1),
    ((2, 1),),
)
# Words along both rows, and down two columns.
WORDS = (
    (2, 3, 3, (
        ("words", (0, 1, 2), (
            (1, 2, 1), (2, 1, 1), (2, 1, 3), (2, 3, 3), (3, 1, 2), (3, 1, 3), (3, 2, 2), (3, 3, 2),
        )),
        ("words", (3, 4, 5), ((1, 1, 3), (2, 1, 2), (2, 2, 1), (2, 2, 3), (3, 1, 3), (3, 3, 3))),
        ("words", (0, 3), ((1, 1), (1, 3), (2, 1), (2, 2), (2, 3), (3, 2))),
        ("words", (1, 4), ((1, 3), (2, 2), (3, 1))),
    )),
    (2, 1, 1, 3, 3, 3),
    ((2, 1),),
)


def shown_names():
    """The names of the puzzles."""
    return "hills", "paths", "words"


def shown(name):
    """(KIND, FILLING, GIVENS) of the puzzle with this name."""
    if not isinstance(name, str) or name not in shown_names():
        raise InvalidName(name)
    if name == "hills":
        return HILLS
    return PATHS if name == "paths" else WORDS
