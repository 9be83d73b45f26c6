"""Joined webs: one web made of two."""

from tagwebs.checking import check_place
from tagwebs.errors import BadJoin
from tagwebs.webs import Web


class Join:
    """Two webs and the web that is made of them, in one of four ways."""

    def __init__(self, kind, first, second, at, to):
        check_join(kind, first, second, at, to)
        self.kind = kind
        self.first = first
        self.second = second
        self.at = at
        self.to = to
        self._firsts = tuple(range(len(first)))
        self._seconds = second_numbers(kind, first, second, at, to)
        self.web = joined_web(first, second, self._seconds, added_pairs(kind, self._firsts, self._seconds, at, to))

    @classmethod
    def apart(cls, first, second):
        """The two webs side by side."""
        return cls("apart", first, second, None, None)

    @classmethod
    def hung(cls, first, at, second, to):
        """The two webs with one place made of a place of each."""
        return cls("hung", first, second, at, to)

    @classmethod
    def tied(cls, first, at, second, to):
        """The two webs with passages there and back between a place of each."""
        return cls("tied", first, second, at, to)

    @classmethod
    def crossed(cls, first, second):
        """The two webs with passages there and back between every two places of both."""
        return cls("crossed", first, second, None, None)

    @property
    def firsts(self):
        """The numbers in the joined web of all places of the first web."""
        return self._firsts

    @property
    def seconds(self):
        """The numbers in the joined web of all places of the second web."""
        return self._seconds

    def of_first(self, place):
        """The number in the joined web of a place of the first web."""
        check_place(self.first, place)
        return self._firsts[place]

    def of_second(self, place):
        """The number in the joined web of a place of the second web."""
        check_place(self.second, place)
        return self._seconds[place]

    def sources(self, place):
        """The list of the places of the two webs that a place of the joined web comes from."""
        check_place(self.web, place)
        found = []
        if place in self._firsts:
            found.append(("first", self._firsts.index(place)))
        if place in self._seconds:
            found.append(("second", self._seconds.index(place)))
        return found


def check_join(kind, first, second, at, to):
    """Raise BadJoin unless the two webs can be joined so."""
    if first.beats != second.beats:
        raise BadJoin("beats")
    if at is not None and not 0 <= at < len(first):
        raise BadJoin("at")
    if to is not None and not 0 <= to < len(second):
        raise BadJoin("to")
    names = [*first.places, *[second.places[place] for place in range(len(second)) if kind != "hung" or place != to]]
    if len(names) > 8:
        raise BadJoin("size")
    if len(set(names)) < len(names):
        raise BadJoin("names")


def second_numbers(kind, first, second, at, to):
    """The numbers in the joined web of the places of the second web."""
    numbers = [len(first) + place for place in range(len(second))]
    if kind == "hung":
        numbers = [*numbers[:to], at, *numbers[to:-1]]
    return tuple(numbers)


def added_pairs(kind, firsts, seconds, at, to):
    """The pairs of places of the joined web between which a join of this kind adds passages."""
    if kind == "tied":
        return [(firsts[at], seconds[to])]
    if kind == "crossed":
        return [(u, v) for u in firsts for v in seconds]
    return []


def joined_web(first, second, seconds, added):
    """The web of the places and passages of the two, and of those added between the pairs."""
    names = [*first.places, *[second.places[at] for at in range(len(second)) if seconds[at] >= len(first)]]
    called = {name: names[seconds[at]] for at, name in enumerate(second)}
    ties = first.ties()
    ties.extend([(called[u], called[v], way, when) for u, v, way, when in second.ties()])
    ties.extend([(names[u], names[v], "two", tuple(range(first.beats))) for u, v in added])
    return Web(names, ties, beats=first.beats)
