"""What the tests share: webs to try, and a check of errors with their attributes."""

import random
import unittest
from itertools import combinations, permutations

from tagwebs.errors import TagError
from tagwebs.joins import Join
from tagwebs.webs import Web


def content(value):
    """All that is in a value, that of objects included, so that it can be compared with what is in it later."""
    if isinstance(value, (list, tuple)):
        return [type(value).__name__, *[content(part) for part in value]]
    if isinstance(value, dict):
        return ["dict", *[(content(key), content(part)) for key, part in value.items()]]
    if type(value).__module__.startswith("tagwebs."):
        return [type(value).__name__, content(vars(value))]
    return value


class Case(unittest.TestCase):
    def fails(self, error, call, *args, **more):
        """The call raises an error of just this class with just these attributes; no argument and no object changes."""
        held = getattr(call, "__self__", None)
        before = content((args, more, held))
        with self.assertRaises(TagError) as caught:
            call(*args, **more)
        self.assertIs(type(caught.exception), type(error))
        self.assertEqual(vars(caught.exception), vars(error))
        self.assertEqual(content((args, more, held)), before)

    def keeps(self, call, *args, **more):
        """The call changes no argument and answers the same again after its answer has been changed."""
        before = content((args, more))
        result = call(*args, **more)
        self.assertEqual(content((args, more)), before)
        if isinstance(result, list):
            wanted = list(result)
            result.append("changed from outside")
            result.reverse()
            self.assertEqual(call(*args, **more), wanted)
            return wanted
        return result

    def holds(self, call, *args):
        """The call gives the same for lists and for tuples in place of them, and changes none of them."""
        lists = [list(arg) if isinstance(arg, (list, tuple)) else arg for arg in args]
        tuples = [tuple(arg) if isinstance(arg, (list, tuple)) else arg for arg in args]
        result = self.keeps(call, *lists)
        self.assertEqual(self.keeps(call, *tuples), result)
        return result


def passages(web):
    """All passages of a web, as triples (beat, first, second)."""
    count = len(web)
    return {
        (beat, u, v)
        for beat in range(web.beats)
        for u in range(count)
        for v in range(count)
        if web.leads(u, v, beat)
    }


def web_of(count, beats, found):
    """The web of letters with these triples as its passages."""
    names = "abcdefgh"[:count]
    when = {}
    for beat, u, v in sorted(found):
        when.setdefault((u, v), []).append(beat)
    ties = [(names[u], names[v], "one", tuple(those)) for (u, v), those in when.items()]
    return Web(list(names), ties, beats=beats)


def line(count, beats=1):
    """The web of letters in which each place is tied to the next."""
    names = "abcdefgh"[:count]
    return Web.tied(list(names), list(zip(names, names[1:])), beats=beats)


def ring(count, beats=1):
    """The web of letters whose places are tied to a ring."""
    names = "abcdefgh"[:count]
    return Web.tied(list(names), list(zip(names, names[1:])) + [(names[-1], names[0])], beats=beats)


def full(count, beats=1):
    """The web of letters in which every two places are tied."""
    names = "abcdefgh"[:count]
    pairs = [(names[u], names[v]) for u in range(count) for v in range(u + 1, count)]
    return Web.tied(list(names), pairs, beats=beats)


def oneway(count, beats=1):
    """The web of letters whose passages lead round a ring in one direction."""
    found = {(beat, u, (u + 1) % count) for beat in range(beats) for u in range(count)}
    return web_of(count, beats, found)


def some_web(chance, count, beats, share):
    """A web in which each passage is there with a share of ten."""
    found = {
        (beat, u, v)
        for beat in range(beats)
        for u in range(count)
        for v in range(count)
        if u != v and chance.randrange(10) < share
    }
    return web_of(count, beats, found)


def some_plain(chance, count, share, beats=1):
    """A plain web in which each tie is there with a share of ten."""
    names = "abcdefgh"[:count]
    pairs = [(names[u], names[v]) for u in range(count) for v in range(u + 1, count)]
    return Web.tied(list(names), [pair for pair in pairs if chance.randrange(10) < share], beats=beats)


def every_plain(count, beats=1):
    """All plain webs of so many places, one of those that differ in the order of the places only."""
    pairs = list(combinations(range(count), 2))
    orders = list(permutations(range(count)))
    seen, webs = set(), []
    for bits in range(2 ** len(pairs)):
        tied = [pair for at, pair in enumerate(pairs) if bits >> at & 1]
        if frozenset(tied) not in seen:
            seen.update(frozenset(tuple(sorted((order[u], order[v]))) for u, v in tied) for order in orders)
            names = "abcdefgh"[:count]
            webs.append(Web.tied(list(names), [(names[u], names[v]) for u, v in tied], beats=beats))
    return webs


def every_doorless(count, beats=1):
    """All doorless webs of so many places, one of those that differ in the order of the places only."""
    pairs = list(permutations(range(count), 2))
    orders = list(permutations(range(count)))
    seen, webs = set(), []
    for bits in range(2 ** len(pairs)):
        found = [pair for at, pair in enumerate(pairs) if bits >> at & 1]
        if frozenset(found) not in seen:
            seen.update(frozenset((order[u], order[v]) for u, v in found) for order in orders)
            webs.append(web_of(count, beats, {(beat, u, v) for u, v in found for beat in range(beats)}))
    return webs


def some_doorless(chance, count, share, beats=1):
    """A doorless web in which each passage is there with a share of ten."""
    found = [(u, v) for u, v in permutations(range(count), 2) if chance.randrange(10) < share]
    return web_of(count, beats, {(beat, u, v) for u, v in found for beat in range(beats)})


def subsets(places, most=8):
    """All sets of at most so many of the places, in ascending order."""
    return sorted(found for many in range(min(most, len(places)) + 1) for found in combinations(sorted(places), many))


def renamed(web):
    """The web with names that no other web here has."""
    return web.renamed(list("stuvwxyz")[: len(web)])


def joins_of(first, second, at=0, to=0):
    """A join of each kind of two webs, without those that would have too many places."""
    second = renamed(second)
    joins = []
    if len(first) + len(second) <= 8:
        joins += [Join.apart(first, second), Join.crossed(first, second), Join.tied(first, at, second, to)]
    if len(first) + len(second) <= 9:
        joins.append(Join.hung(first, at, second, to))
    return joins


def some_joins(chance, make, number, most_places=3):
    """Joins of all kinds of webs that make(count, share, beats) gives."""
    joins = []
    for _ in range(number):
        beats = 1 + chance.randrange(2)
        first = make(1 + chance.randrange(most_places), 2 + chance.randrange(7), beats)
        second = make(1 + chance.randrange(most_places), 2 + chance.randrange(7), beats)
        joins += joins_of(first, second, chance.randrange(len(first)), chance.randrange(len(second)))
    return joins


def many_webs(seed, number, most_places=5, most_beats=3):
    """A list of different kinds of webs, always the same ones for a seed."""
    chance = random.Random(seed)
    webs = []
    for at in range(number):
        count = 1 + chance.randrange(most_places)
        beats = 1 + chance.randrange(most_beats)
        if at % 3 == 0:
            webs.append(some_plain(chance, count, 2 + chance.randrange(7), beats))
        else:
            webs.append(some_web(chance, count, beats, 1 + chance.randrange(8)))
    return webs
