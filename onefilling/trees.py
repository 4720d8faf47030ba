"""Whether a value is a tree for a sheet and a lot of rules."""

from onefilling.bits import parts_of, sheet_bits
from onefilling.forms import is_whole
from onefilling.keepers import bars, keeper_of

DEEPEST = 20


def is_tree_for(kind, sheet, lot, value):
    """Whether the value is a tree for both."""
    return is_tree_by({index: keeper_of(kind, kind[3][index]) for index in lot}, sheet_bits(sheet), value)


def is_tree_by(keepers, lots, value):
    """Whether the value is a tree for the lots and the rules whose keepers these are, by their indexes."""
    return _is_tree(keepers, lots, DEEPEST, value)


def _is_tree(keepers, lots, depth, value):
    if not isinstance(value, tuple) or len(value) < 2 or not isinstance(value[0], str):
        return False
    if value[0] == "void":
        return len(value) == 2 and is_whole(value[1], 0, len(lots) - 1) and lots[value[1]] == 0
    if value[0] == "rule":
        return len(value) == 2 and _is_index(keepers, value[1]) and bars(keepers[value[1]], lots)
    if value[0] != "cases" or len(value) != 3 or not is_whole(value[1], 0, len(lots) - 1):
        return False
    return depth > 0 and _are_cases(keepers, lots, depth, value[1], value[2])


def _is_index(keepers, value):
    # As keys True and 1 would be one.
    return isinstance(value, int) and not isinstance(value, bool) and value in keepers


def _are_cases(keepers, lots, depth, place, trees):
    parts = parts_of(lots[place])
    if not isinstance(trees, tuple) or len(trees) != len(parts):
        return False
    for part, tree in zip(parts, trees):
        inner = list(lots)
        inner[place] = part
        if not _is_tree(keepers, inner, depth - 1, tree):
            return False
    return True
