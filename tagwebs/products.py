"""Products of two webs, on the pairs of their places."""

from tagwebs.errors import BadJoin
from tagwebs.webs import Web, woven


def box(first, second):
    """The web on which one goes along a passage of one of the two webs at a time."""
    check_factors(first, second)
    return paired(first, second, False)


def strong(first, second):
    """The web on which one takes a step of each of the two webs at once."""
    check_factors(first, second)
    return paired(first, second, True)


def check_factors(first, second):
    """Raise BadJoin unless the two webs have products."""
    if first.beats != second.beats:
        raise BadJoin("beats")
    if len(first) * len(second) > 8:
        raise BadJoin("size")


def paired(first, second, at_once):
    """The product in which one can move in both webs at once, or in one of them only."""
    pairs = [(u, v) for u in range(len(first)) for v in range(len(second))]
    nexts = []
    for beat in range(first.beats):
        nexts.append([pair_nexts(first, second, beat, pair, at_once) for pair in pairs])
    return woven(Web.letters(len(pairs)), nexts)


def pair_nexts(first, second, beat, pair, at_once):
    """The numbers of the pairs to which a passage leads from this pair."""
    u, v = pair
    found = []
    for x in first.steps(u, beat):
        for y in second.steps(v, beat):
            if (x, y) != pair and (at_once or x == u or y == v):
                found.append(x * len(second) + y)
    return found
