"""When a rule holds for a filling, for each sort of rules."""

from onefilling.floor import Floor, lowest


def _worths_at(filling, places):
    return [filling[place] for place in places]


def _unlike_holds(kind, rule, filling):
    worths = _worths_at(filling, rule[1])
    return len(set(worths)) == len(worths)


def _sum_holds(kind, rule, filling):
    return rule[2] <= sum(_worths_at(filling, rule[1])) <= rule[3]


def _below_holds(kind, rule, filling):
    return filling[rule[1]] < filling[rule[2]]


def _steps_holds(kind, rule, filling):
    return rule[3] <= abs(filling[rule[1]] - filling[rule[2]]) <= rule[4]


def _count_holds(kind, rule, filling):
    return rule[3] <= sum(1 for place in rule[1] if filling[place] in rule[2]) <= rule[4]


def _words_holds(kind, rule, filling):
    return tuple(_worths_at(filling, rule[1])) in rule[2]


def _stretches(worths, worth):
    lengths = []
    length = 0
    for each in worths:
        if each == worth:
            length += 1
        elif length > 0:
            lengths.append(length)
            length = 0
    if length > 0:
        lengths.append(length)
    return tuple(lengths)


def _runs_holds(kind, rule, filling):
    return _stretches(_worths_at(filling, rule[1]), rule[2]) == rule[3]


def _seen_holds(kind, rule, filling):
    many = 0
    highest = 0
    for worth in _worths_at(filling, rule[1]):
        if worth > highest:
            many += 1
            highest = worth
    return many == rule[2]


def _joined_holds(kind, rule, filling):
    inside = sum(1 << place for place, worth in enumerate(filling) if worth in rule[1])
    return Floor(kind[0], kind[1]).piece(inside, lowest(inside)) == inside


RULE_HOLDS = {
    "unlike": _unlike_holds,
    "sum": _sum_holds,
    "below": _below_holds,
    "steps": _steps_holds,
    "count": _count_holds,
    "words": _words_holds,
    "runs": _runs_holds,
    "seen": _seen_holds,
    "joined": _joined_holds,
}


def rule_holds(kind, rule, filling):
    """Whether the rule of the kind holds for the filling."""
    told = RULE_HOLDS[rule[0]]
    return told(kind, rule, filling)


def fills_all(kind, filling):
    """Whether all rules of the kind hold for the filling."""
    return all(rule_holds(kind, rule, filling) for rule in kind[3])
