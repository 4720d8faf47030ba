"""Which values are kinds, rules, sheets, fillings and puzzles: told for any value whatever."""

MOST_SIDE = 4
MOST_WORTHS = 6
MOST_RULES = 12
MOST_WORDS = 30
MOST_LENGTHS = 8
LONGEST = 16
HIGHEST = 99
LONGEST_NAME = 12


def is_from_0(value):
    """Whether the value is a whole number from 0 on."""
    return isinstance(value, int) and not isinstance(value, bool) and value >= 0


def is_whole(value, low, high):
    """Whether the value is a whole number from LOW to HIGH."""
    return isinstance(value, int) and not isinstance(value, bool) and low <= value <= high


def is_row(value, low, high):
    """Whether the value is a tuple of whole numbers from LOW to HIGH."""
    return isinstance(value, tuple) and all(is_whole(number, low, high) for number in value)


def is_ascending(value, low, high):
    """Whether the value is an ascending tuple of whole numbers from LOW to HIGH."""
    if not isinstance(value, tuple):
        return False
    least = low
    for number in value:
        if not is_whole(number, least, high):
            return False
        least = number + 1
    return True


def is_way(value, places):
    """Whether the value is a tuple of one or more unlike places."""
    return is_row(value, 0, places - 1) and len(value) > 0 and len(set(value)) == len(value)


def _are_places(value, places, fewest):
    return is_ascending(value, 0, places - 1) and len(value) >= fewest


def _is_some_lot(value, worths):
    return is_ascending(value, 1, worths) and len(value) > 0


def _is_span(low, high):
    return is_whole(low, 0, HIGHEST) and is_whole(high, low, HIGHEST)


def _are_unlike(first, second, places):
    return is_whole(first, 0, places - 1) and is_whole(second, 0, places - 1) and first != second


def _are_words(value, length, worths):
    if not isinstance(value, tuple) or not 1 <= len(value) <= MOST_WORDS:
        return False
    before = ()
    for word in value:
        # Compared last: only words are sure to have an order.
        if not is_row(word, 1, worths) or len(word) != length or word <= before:
            return False
        before = word
    return True


def _is_unlike_rule(places, worths, rule):
    return len(rule) == 2 and _are_places(rule[1], places, 2)


def _is_sum_rule(places, worths, rule):
    return len(rule) == 4 and _are_places(rule[1], places, 1) and _is_span(rule[2], rule[3])


def _is_below_rule(places, worths, rule):
    return len(rule) == 3 and _are_unlike(rule[1], rule[2], places)


def _is_steps_rule(places, worths, rule):
    return len(rule) == 5 and _are_unlike(rule[1], rule[2], places) and _is_span(rule[3], rule[4])


def _is_count_rule(places, worths, rule):
    if len(rule) != 5 or not _are_places(rule[1], places, 1):
        return False
    return _is_some_lot(rule[2], worths) and _is_span(rule[3], rule[4])


def _is_words_rule(places, worths, rule):
    return len(rule) == 3 and is_way(rule[1], places) and _are_words(rule[2], len(rule[1]), worths)


def _is_runs_rule(places, worths, rule):
    if len(rule) != 4 or not is_way(rule[1], places) or not is_whole(rule[2], 1, worths):
        return False
    return is_row(rule[3], 1, LONGEST) and len(rule[3]) <= MOST_LENGTHS


def _is_seen_rule(places, worths, rule):
    return len(rule) == 3 and is_way(rule[1], places) and is_whole(rule[2], 0, LONGEST)


def _is_joined_rule(places, worths, rule):
    return len(rule) == 2 and _is_some_lot(rule[1], worths)


RULE_FORMS = {
    "unlike": _is_unlike_rule,
    "sum": _is_sum_rule,
    "below": _is_below_rule,
    "steps": _is_steps_rule,
    "count": _is_count_rule,
    "words": _is_words_rule,
    "runs": _is_runs_rule,
    "seen": _is_seen_rule,
    "joined": _is_joined_rule,
}


def is_rule_form(places, worths, value):
    """Whether the value is a rule where there are so many places and worths."""
    if not isinstance(value, tuple) or not value:
        return False
    # Other values than texts may be no keys at all.
    if not isinstance(value[0], str) or value[0] not in RULE_FORMS:
        return False
    form = RULE_FORMS[value[0]]
    return form(places, worths, value)


def is_kind_form(value):
    """Whether the value is a kind."""
    if not isinstance(value, tuple) or len(value) != 4:
        return False
    rows, columns, worths, rules = value
    if not is_whole(rows, 1, MOST_SIDE) or not is_whole(columns, 1, MOST_SIDE):
        return False
    if not is_whole(worths, 2, MOST_WORTHS):
        return False
    if not isinstance(rules, tuple) or len(rules) > MOST_RULES:
        return False
    return all(is_rule_form(rows * columns, worths, rule) for rule in rules)


def places_in(kind):
    """How many places the kind has."""
    return kind[0] * kind[1]


def is_sheet_form(kind, value):
    """Whether the value is a sheet of the kind."""
    if not isinstance(value, tuple) or len(value) != places_in(kind):
        return False
    return all(is_ascending(lot, 1, kind[2]) for lot in value)


def is_filling_form(kind, value):
    """Whether the value is a filling of the kind."""
    return is_row(value, 1, kind[2]) and len(value) == places_in(kind)


def are_givens(kind, value):
    """Whether the value is an ascending tuple of pairs of a place and a worth, each place at most once."""
    if not isinstance(value, tuple):
        return False
    least = 0
    for given in value:
        if not isinstance(given, tuple) or len(given) != 2:
            return False
        place, worth = given
        if not is_whole(place, least, places_in(kind) - 1) or not is_whole(worth, 1, kind[2]):
            return False
        least = place + 1
    return True


def is_puzzle_form(value):
    """Whether the value is a puzzle."""
    if not isinstance(value, tuple) or len(value) != 2:
        return False
    return is_kind_form(value[0]) and are_givens(value[0], value[1])


def is_lot_of_rules(kind, value):
    """Whether the value is an ascending tuple of indexes of the kind's rules."""
    return is_ascending(value, 0, len(kind[3]) - 1)


def is_strike_form(sheet, value):
    """Whether the value is a pair of a place of the sheet and a worth of its lot."""
    if not isinstance(value, tuple) or len(value) != 2:
        return False
    place, worth = value
    # As True is no worth, it is not enough that the worth is in the lot.
    return is_whole(place, 0, len(sheet) - 1) and is_whole(worth, 1, MOST_WORTHS) and worth in sheet[place]


def is_name(value):
    """Whether the value is a text of 1 to 12 small letters."""
    if not isinstance(value, str) or not 1 <= len(value) <= LONGEST_NAME:
        return False
    return all("a" <= letter <= "z" for letter in value)
