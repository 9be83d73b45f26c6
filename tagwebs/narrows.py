"""Narrow sets of places: those whose rim has no more places than there are seekers.

A dict of the narrow sets, each with its rim, is called narrow. If flying seekers can keep a set clean, they can keep
each narrow set within it clean, and a set with one place more, if they are enough for this place and the rim.
"""

from tagwebs.reaching import rim
from tagwebs.sets import has_all, others, sets_up_to, union


def narrow_sets(web, seekers):
    """A dict of all narrow sets, in ascending order, each with its rim."""
    rims = {places: rim(web, places) for places in sets_up_to(len(web), len(web))}
    return {places: edge for places, edge in rims.items() if len(edge) <= seekers}


def clean_next(web, seekers, narrow, places):
    """The list of the sets that can be clean if this narrow set can: the narrow ones within it, and larger ones."""
    found = [fewer for fewer in narrow if has_all(places, fewer)]
    if len(narrow[places]) < seekers:
        found.extend([union(places, (place,)) for place in others(places, len(web))])
    return found


def clean_from(web, seekers, narrow, places):
    """A dict of all sets that can be clean after the set of the places is clean."""
    found = {}
    ahead = [places]
    while ahead:
        one = ahead.pop()
        if one not in found:
            found[one] = True
            ahead.extend(clean_next(web, seekers, narrow, one))
    return found


def opposite(web, narrow, places):
    """The set of the places outside of a narrow set, and of its rim."""
    return union(others(places, len(web)), narrow[places])
