"""Webs: places, a round of beats, and passages."""

from tagwebs.checking import check_place
from tagwebs.errors import BadNumber, BadWeb, UnknownName, UnknownPlace, Unlike
from tagwebs.names import LETTERS, is_name
from tagwebs.tying import is_tie, nexts_of, ties_of


class Web:
    """Places, beats, and the passages that lead from place to place at each beat."""

    def __init__(self, places, ties, *, beats=1):
        check_names(places)
        if not 1 <= beats <= 4:
            raise BadWeb("beats", 0)
        check_ties(places, ties, beats)
        self.places = tuple(places)
        self.beats = beats
        self._nexts = nexts_of(self.places, ties, beats)
        self._steps = steps_of(self._nexts)

    def __len__(self):
        return len(self.places)

    def __iter__(self):
        return iter(self.places)

    def __contains__(self, name):
        return name in self.places

    def __eq__(self, other):
        return isinstance(other, Web) and self.places == other.places and self._nexts == other._nexts

    def __or__(self, other):
        return picked(self, other, ((True, True), (True, False), (False, True)))

    def __and__(self, other):
        return picked(self, other, ((True, True),))

    def __sub__(self, other):
        return picked(self, other, ((True, False),))

    @property
    def plain(self):
        """True if every passage is there in both directions and at every beat."""
        return self.doorless and self._nexts == backward_nexts(self._nexts)

    @property
    def doorless(self):
        """True if every passage is there at every beat."""
        return all([nexts == self._nexts[0] for nexts in self._nexts])

    def index(self, name):
        """The number of the place with this name."""
        if name not in self.places:
            raise UnknownName(name)
        return self.places.index(name)

    def leads(self, first, second, beat):
        """True if a passage leads from the first place to the second at this beat."""
        check_place(self, first)
        check_place(self, second)
        return second in self._nexts[beat % self.beats][first]

    def steps(self, place, beat):
        """The set of this place and of all places to which a passage leads from it at this beat."""
        check_place(self, place)
        return self._steps[beat % self.beats][place]

    def ties(self):
        """The list of the ties in their one form."""
        return ties_of(self.places, self._nexts)

    def within(self, other):
        """True if every passage of this web is one of the other."""
        return (self & other) == self

    def turned(self, count):
        """The web that has at each beat the passages of the beat so many later."""
        return woven(self.places, [self._nexts[(beat + count) % self.beats] for beat in range(self.beats)])

    def unrolled(self, times):
        """The web whose round is this round so many times."""
        if times < 1 or self.beats * times > 4:
            raise BadNumber(times)
        return woven(self.places, self._nexts * times)

    def backward(self):
        """The web with all passages turned around."""
        return woven(self.places, backward_nexts(self._nexts))

    def restricted(self, places):
        """The web of some of the places, in the order passed."""
        check_part(self, places)
        names = tuple([self.places[place] for place in places])
        return woven(names, [restricted_nexts(nexts, places) for nexts in self._nexts])

    def renamed(self, names):
        """The web with other names of the places."""
        if len(names) != len(self.places):
            raise BadWeb("places", 0)
        check_names(names)
        return woven(tuple(names), self._nexts)

    @classmethod
    def tied(cls, places, pairs, *, beats=1):
        """The web in which each pair of names is a tie in both directions and at all beats."""
        # A wrong number of beats is for the web to report, so it is not counted through here.
        when = tuple(range(beats)) if 1 <= beats <= 4 else ()
        return cls(places, [(*pair, "two", when) for pair in pairs], beats=beats)

    @staticmethod
    def letters(count):
        """The tuple of the first so many names of one letter."""
        if not 0 <= count <= 8:
            raise BadNumber(count)
        return tuple(LETTERS[:count])


def check_names(places):
    """Raise BadWeb unless these can be the names of the places of a web."""
    if not 1 <= len(places) <= 8:
        raise BadWeb("places", 0)
    for at in range(len(places)):
        if not is_name(places[at]) or places[at] in places[:at]:
            raise BadWeb("place", at)


def check_part(web, places):
    """Raise BadWeb or UnknownPlace unless these can be the places of a part of the web."""
    if len(places) == 0:
        raise BadWeb("places", 0)
    for at in range(len(places)):
        check_place(web, places[at])
        if places[at] in places[:at]:
            raise UnknownPlace(places[at])


def check_ties(places, ties, beats):
    """Raise BadWeb unless these can be the ties of a web with such places and beats."""
    if len(ties) > 100:
        raise BadWeb("ties", 0)
    for at, tie in enumerate(ties):
        if not is_tie(places, tie, beats):
            raise BadWeb("tie", at)


def woven(places, nexts):
    """The web with these names and nexts."""
    return Web(places, ties_of(places, nexts), beats=len(nexts))


def picked(one, other, kinds):
    """The web of the passages for which the pair (it is in the one web, it is in the other) is one of the kinds."""
    if one.places != other.places or one.beats != other.beats:
        raise Unlike()
    count = len(one)
    nexts = [
        [
            [v for v in range(count) if (one.leads(u, v, beat), other.leads(u, v, beat)) in kinds]
            for u in range(count)
        ]
        for beat in range(one.beats)
    ]
    return woven(one.places, nexts)


def steps_of(nexts):
    """For each beat and place the set of the place itself and of its nexts."""
    return tuple([tuple([tuple(sorted([u, *row[u]])) for u in range(len(row))]) for row in nexts])


def backward_nexts(nexts):
    """The nexts with all passages turned around."""
    return tuple([tuple([places_into(row, v) for v in range(len(row))]) for row in nexts])


def places_into(row, place):
    """The places from which a passage leads to this one, by the nexts of one beat."""
    return tuple([u for u in range(len(row)) if place in row[u]])


def restricted_nexts(row, places):
    """The nexts of one beat between some places, by their indexes among these."""
    count = len(places)
    return [[v for v in range(count) if places[v] in row[places[u]]] for u in range(count)]
