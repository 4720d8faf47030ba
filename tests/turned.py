"""What the document says of turns, told once more and as plainly as can be: [31]."""
import itertools

ORDERED = ("sum", "below", "steps", "seen")
# Where row r, column c of R rows and C columns comes to, for each HOW, as the document writes it.
WAYS = (
    lambda r, c, R, C: (r, c), lambda r, c, R, C: (r, C - 1 - c), lambda r, c, R, C: (R - 1 - r, c),
    lambda r, c, R, C: (R - 1 - r, C - 1 - c), lambda r, c, R, C: (c, r), lambda r, c, R, C: (C - 1 - c, r),
    lambda r, c, R, C: (c, R - 1 - r), lambda r, c, R, C: (C - 1 - c, R - 1 - r),
)


def spot(kind, how, place):
    """Where the place comes to."""
    row, column = WAYS[how](*divmod(place, kind[1]), kind[0], kind[1])
    return row * (kind[1] if how < 4 else kind[0]) + column


def turns_of(kind):
    """All turns of the kind."""
    order = tuple(range(1, kind[2] + 1))
    ordered = any(rule[0] in ORDERED for rule in kind[3])
    return [(how, exchange) for how in range(8) for exchange in ([order] if ordered else itertools.permutations(order))]


def rule_plainly(kind, turn, rule):
    """The turned rule, by the words of [31]."""
    how, exchange = turn
    sort, parts = rule[0], rule[1:]

    def at(place):
        return spot(kind, how, place)

    def places(some):
        return tuple(sorted(at(place) for place in some))

    def way(some):
        return tuple(at(place) for place in some)

    def lot(some):
        return tuple(sorted(exchange[worth - 1] for worth in some))

    if sort == "unlike":
        return (sort, places(parts[0]))
    if sort == "sum":
        return (sort, places(parts[0]), *parts[1:])
    if sort in ("below", "steps"):
        return (sort, at(parts[0]), at(parts[1]), *parts[2:])
    if sort == "count":
        return (sort, places(parts[0]), lot(parts[1]), *parts[2:])
    if sort == "words":
        words = [tuple(exchange[worth - 1] for worth in word) for word in parts[1]]
        return (sort, way(parts[0]), tuple(sorted(words)))
    if sort == "runs":
        return (sort, way(parts[0]), exchange[parts[1] - 1], parts[2])
    if sort == "seen":
        return (sort, way(parts[0]), parts[1])
    assert sort == "joined"
    return (sort, lot(parts[0]))


def kind_plainly(kind, turn):
    sides = (kind[0], kind[1]) if turn[0] < 4 else (kind[1], kind[0])
    return sides + (kind[2], tuple(rule_plainly(kind, turn, rule) for rule in kind[3]))


def keeps_plainly(kind, turn):
    other = kind_plainly(kind, turn)
    return kind[:3] == other[:3] and sorted(map(repr, kind[3])) == sorted(map(repr, other[3]))


def givens_plainly(kind, turn, givens):
    return tuple(sorted((spot(kind, turn[0], place), turn[1][worth - 1]) for place, worth in givens))
