"""Rows of texts: those of a kind, written and read. A text has just one kind, so what is read is written once more."""

from onefilling.errors import InvalidText
from onefilling.forms import MOST_RULES, MOST_SIDE, MOST_WORTHS, is_rule_form

# What stands between the colons, for each sort of rules: a tuple of numbers, a number, two numbers, a tuple of words.
SHAPES = {
    "unlike": ("numbers",),
    "sum": ("numbers", "two"),
    "below": ("two",),
    "steps": ("two", "two"),
    "count": ("numbers", "numbers", "two"),
    "words": ("numbers", "words"),
    "runs": ("numbers", "one", "numbers"),
    "seen": ("numbers", "one"),
    "joined": ("numbers",),
}


def text_of(rows):
    """The text of these rows, each ended by a line end."""
    return "".join([row + "\n" for row in rows])


def in_rows(kind, words):
    """The words, one for each place, in the kind's rows."""
    columns = kind[1]
    return [" ".join(words[first:first + columns]) for first in range(0, len(words), columns)]


def figures(worths):
    """The worths as figures, one behind the other."""
    return "".join([str(worth) for worth in worths])


def kind_rows(kind):
    """The rows of a kind's text."""
    return [_floor_row(kind[0], kind[1]), _worths_row(kind[2])] + [_rule_row(rule) for rule in kind[3]]


def _floor_row(rows, columns):
    return f"floor {rows} {columns}"


def _worths_row(worths):
    return f"worths {worths}"


def _rule_row(rule):
    words = [rule[0]]
    at = 1
    for shape in SHAPES[rule[0]]:
        if at > 1:
            words.append(":")
        if shape == "words":
            words.extend([figures(word) for word in rule[at]])
        elif shape == "numbers":
            words.extend([str(number) for number in rule[at]])
        else:
            words.extend([str(number) for number in rule[at:at + _width(shape)]])
        at += _width(shape)
    return " ".join(words)


def _width(shape):
    """How many parts of a rule stand there."""
    return 2 if shape == "two" else 1


def rows_of(text):
    """The rows of a text; the last one is what stands behind the last line end."""
    if not isinstance(text, str):
        raise InvalidText(None)
    return text.split("\n")


def check_end(rows, many):
    """Just so many rows are asked for, and each of them is ended by a line end."""
    if len(rows) != many + 1 or rows[many] != "":
        raise InvalidText(many)


def kind_length(kind):
    """How many rows the kind's text has."""
    return 2 + len(kind[3])


def ended(rows, at):
    """The row with this index, if there is one that is ended by a line end; None."""
    return rows[at] if at < len(rows) - 1 else None


def kind_in(rows):
    """The kind that the first rows tell."""
    floor = _floor_in(ended(rows, 0))
    if floor is None:
        raise InvalidText(0)
    worths = _worths_in(ended(rows, 1))
    if worths is None:
        raise InvalidText(1)
    rules = []
    rule = _rule_in(ended(rows, 2), floor[0] * floor[1], worths)
    while rule is not None and len(rules) < MOST_RULES:
        rules.append(rule)
        rule = _rule_in(ended(rows, 2 + len(rules)), floor[0] * floor[1], worths)
    return floor[0], floor[1], worths, tuple(rules)


def _floor_in(row):
    # All rows that there may be are few, so none is taken apart.
    for rows in range(1, MOST_SIDE + 1):
        for columns in range(1, MOST_SIDE + 1):
            if row == _floor_row(rows, columns):
                return rows, columns
    return None


def _worths_in(row):
    for worths in range(2, MOST_WORTHS + 1):
        if row == _worths_row(worths):
            return worths
    return None


def _rule_in(row, places, worths):
    """The rule that this row tells; None."""
    words = [] if row is None else row.split(" ")
    if not words or words[0] not in SHAPES:
        return None
    groups = _groups_in(words[1:])
    shapes = SHAPES[words[0]]
    if len(groups) != len(shapes):
        return None
    rule = (words[0],)
    for shape, group in zip(shapes, groups):
        parts = _parts_in(shape, group)
        if parts is None:
            return None
        rule += parts
    # Written anew it has to be this row: so there is just one text of it.
    return rule if is_rule_form(places, worths, rule) and _rule_row(rule) == row else None


def _groups_in(words):
    groups = [[]]
    for word in words:
        if word == ":":
            groups.append([])
        else:
            groups[-1].append(word)
    return groups


def _parts_in(shape, group):
    """The parts of a rule that these words tell; None."""
    if not all(is_number(word) for word in group):
        return None
    if shape == "words":
        return (tuple([tuple([int(figure) for figure in word]) for word in group]),)
    numbers = tuple([int(word) for word in group])
    return (numbers,) if shape == "numbers" else numbers


def is_number(word):
    """Whether the word is made of figures, and not too many."""
    # No number and no word has more than 16 figures, and of very long ones Python makes no number.
    return word.isascii() and word.isdigit() and len(word) <= 16
