"""Shut families: sets of places that can be clean, never all places."""

from tagwebs.checking import check_doorless, check_plain, check_seekers
from tagwebs.errors import BadShut
from tagwebs.narrows import clean_from, clean_next, narrow_sets
from tagwebs.sets import has_all, others, sets_up_to, union


class Shut:
    """A family of sets that seekers who are told nothing do not leave, if they keep clean what they have cleaned."""

    def __init__(self, web, seekers, sets):
        check_doorless(web)
        if not 0 <= seekers <= 8:
            raise BadShut("seekers", 0)
        narrow = narrow_sets(web, seekers)
        self.web = web
        self.seekers = seekers
        self._sets = checked_sets(web, narrow, sets)
        if () not in self._sets:
            raise BadShut("empty", 0)
        for at, places in enumerate(sets):
            if not all([other in self._sets for other in clean_next(web, seekers, narrow, places)]):
                raise BadShut("answer", at)
        self._order = sorted(list(self._sets))

    def __len__(self):
        return len(self._order)

    def __iter__(self):
        return iter(self._order)

    def __contains__(self, places):
        return places in self._sets

    def __eq__(self, other):
        return (
            isinstance(other, Shut)
            and not isinstance(other, Blocking)
            and self.web == other.web
            and self.seekers == other.seekers
            and self._order == other._order
        )


class Blocking(Shut):
    """A shut family of a plain web that has exactly one of the two sets of each parting."""

    def __init__(self, web, seekers, sets):
        check_plain(web)
        super().__init__(web, seekers, sets)
        for first, second in partings(web, seekers):
            if (first in self._sets) == (second in self._sets):
                raise BadShut("parting", 0)

    def __len__(self):
        return len(self._order)

    def __iter__(self):
        return iter(self._order)

    def __contains__(self, places):
        return places in self._sets

    def __eq__(self, other):
        return (
            isinstance(other, Blocking)
            and self.web == other.web
            and self.seekers == other.seekers
            and self._order == other._order
        )


def clean_sets(web, seekers):
    """The ascending list of all sets that can be clean after nothing was clean."""
    check_doorless(web)
    check_seekers(seekers)
    return sorted(list(clean_from(web, seekers, narrow_sets(web, seekers), ())))


def checked_sets(web, narrow, sets):
    """A dict of the sets, or BadShut for the first one that cannot stand in a family."""
    found = {}
    for at, places in enumerate(sets):
        if places not in narrow or places in found or len(places) == len(web):
            raise BadShut("set", at)
        found[places] = True
    return found


def partings(web, seekers):
    """The list of the partings of a plain web.

    No passage leads between places that are in one of the two sets only: so the rim of a set is in both.
    """
    found = []
    shared = sets_up_to(len(web), seekers)
    for first, edge in narrow_sets(web, seekers).items():
        outside = others(first, len(web))
        for both in shared:
            if has_all(both, edge) and has_all(first, both):
                found.append((first, union(outside, both)))
    return found
