"""Ties of webs, and the passages that they give.

The passages of a web are kept as its nexts: nexts[beat][place] is the ascending tuple of the places to which a
passage leads from this place at this beat.
"""

from tagwebs.sets import is_set


def is_tie(places, tie, beats):
    """True if the tuple is a tie between places of these names, at some of so many beats."""
    if len(tie) != 4:
        return False
    first, second, way, when = tie
    if first not in places or second not in places or first == second:
        return False
    return way in ("two", "one") and len(when) > 0 and is_set(when, beats)


def nexts_of(places, ties, beats):
    """The nexts that the ties give."""
    given = {}
    for first, second, way, when in ties:
        u = places.index(first)
        v = places.index(second)
        for beat in when:
            given[(beat, u, v)] = True
            if way == "two":
                given[(beat, v, u)] = True
    count = len(places)
    return tuple([nexts_at(given, beat, count) for beat in range(beats)])


def nexts_at(given, beat, count):
    """The nexts of one beat, of a dict that has a key (beat, u, v) for each passage."""
    return tuple([tuple([v for v in range(count) if (beat, u, v) in given]) for u in range(count)])


def ties_of(places, nexts):
    """The ties in their one form that give these nexts."""
    ties = []
    for u in range(len(places)):
        for v in range(u + 1, len(places)):
            ties.extend(ties_between(places, nexts, u, v))
    return ties


def ties_between(places, nexts, u, v):
    """The ties in their one form between two places."""
    there = [beat for beat in range(len(nexts)) if v in nexts[beat][u]]
    back = [beat for beat in range(len(nexts)) if u in nexts[beat][v]]
    both = tuple([beat for beat in there if beat in back])
    only_there = tuple([beat for beat in there if beat not in back])
    only_back = tuple([beat for beat in back if beat not in there])
    ties = (
        (places[u], places[v], "two", both),
        (places[u], places[v], "one", only_there),
        (places[v], places[u], "one", only_back),
    )
    return [tie for tie in ties if len(tie[3]) > 0]
