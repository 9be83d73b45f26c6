"""Points [59] and [60]: joined webs."""

import random
import unittest

from helpers import Case, full, joins_of, line, many_webs, oneway, passages, renamed, ring, some_web, web_of
from tagwebs.errors import BadJoin, UnknownPlace
from tagwebs.joins import Join
from tagwebs.webs import Web


def pairs_of_webs():
    """Pairs of webs of all kinds with the same beats."""
    chance = random.Random(301)
    pairs = [(Web(["a"], []), Web(["b"], [])), (line(3), line(1)), (ring(4), oneway(3)), (full(4, 4), full(4, 4))]
    for web in many_webs(302, 60, 5, 4):
        pairs.append((web, some_web(chance, 1 + chance.randrange(4), web.beats, 1 + chance.randrange(8))))
    return pairs


class Making(Case):
    def test_example(self):
        join = Join.hung(Web.tied(["a", "b"], [("a", "b")]), 1, Web.tied(["c", "d"], [("c", "d")]), 0)
        self.assertEqual(
            [join.web.places, join.firsts, join.seconds, join.sources(1), join.web.steps(1, 0)],
            [("a", "b", "d"), (0, 1), (1, 2), [("first", 1), ("second", 0)], (0, 1, 2)])

    def test_attributes(self):
        first, second = line(2, 2), renamed(web_of(3, 2, {(0, 0, 1), (1, 2, 0)}))
        for join, kind, at, to in [
            (Join.apart(first, second), "apart", None, None), (Join.crossed(first, second), "crossed", None, None),
            (Join.hung(first, 1, second, 2), "hung", 1, 2), (Join.tied(first, 0, second, 1), "tied", 0, 1),
        ]:
            self.assertEqual((join.kind, join.first, join.second, join.at, join.to), (kind, first, second, at, to))
            self.assertEqual((type(join), type(join.web), join.web.beats), (Join, Web, 2))

    def test_places_and_passages_of_each_kind(self):
        doors = Web(["a", "b"], [("a", "b", "one", (1,))], beats=2)
        other = Web(["x", "y", "z"], [("x", "y", "two", (0,)), ("z", "y", "one", (0, 1))], beats=2)
        mine = [("a", "b", "one", (1,)), ("x", "y", "two", (0,)), ("z", "y", "one", (0, 1))]
        names = ["a", "b", "x", "y", "z"]
        self.assertEqual(Join.apart(doors, other).web, Web(names, mine, beats=2))
        self.assertEqual(Join.tied(doors, 0, other, 2).web, Web(names, [*mine, ("a", "z", "two", (0, 1))], beats=2))
        crossed = [(u, v, "two", (0, 1)) for u in "ab" for v in "xyz"]
        self.assertEqual(Join.crossed(doors, other).web, Web(names, [*mine, *crossed], beats=2))
        hung = [("a", "b", "one", (1,)), ("x", "b", "two", (0,)), ("z", "b", "one", (0, 1))]
        self.assertEqual(Join.hung(doors, 1, other, 1).web, Web(["a", "b", "x", "z"], hung, beats=2))

    def test_all(self):
        chance = random.Random(303)
        kinds = []
        for first, second in pairs_of_webs():
            for join in joins_of(first, second, chance.randrange(len(first)), chance.randrange(len(second))):
                kinds.append(join.kind)
                self.check(join, first, renamed(second))
        self.assertGreater(min(kinds.count(kind) for kind in ("apart", "hung", "tied", "crossed")), 40)

    def check(self, join, first, second):
        many = len(first)
        left = [place for place in range(len(second)) if join.kind != "hung" or place != join.to]
        numbers = {place: many + at for at, place in enumerate(left)}
        if join.kind == "hung":
            numbers[join.to] = join.at
        self.assertEqual(join.web.places, (*first.places, *[second.places[place] for place in left]))
        self.assertEqual(join.firsts, tuple(range(many)))
        self.assertEqual(join.seconds, tuple(numbers[place] for place in range(len(second))))
        self.assertEqual([join.of_first(place) for place in range(many)], list(join.firsts))
        self.assertEqual([join.of_second(place) for place in range(len(second))], list(join.seconds))
        for number in range(len(join.web)):
            wanted = [("first", number)] if number < many else []
            wanted += [("second", place) for place in range(len(second)) if numbers[place] == number]
            self.assertEqual(self.keeps(join.sources, number), wanted)
        wanted = passages(first) | {(beat, numbers[u], numbers[v]) for beat, u, v in passages(second)}
        added = {(join.at, numbers[join.to])} if join.kind == "tied" else set()
        if join.kind == "crossed":
            added = {(u, numbers[v]) for u in range(many) for v in range(len(second))}
        for u, v in added:
            wanted |= {(beat, *pair) for pair in ((u, v), (v, u)) for beat in range(first.beats)}
        self.assertEqual(passages(join.web), wanted)

    def test_webs_of_one_place(self):
        first, second = Web(["a"], []), Web(["b"], [])
        self.assertEqual(Join.hung(first, 0, second, 0).web, first)
        self.assertEqual(Join.hung(first, 0, second, 0).sources(0), [("first", 0), ("second", 0)])
        self.assertEqual(Join.apart(first, second).web, Web(["a", "b"], []))
        self.assertEqual(Join.tied(first, 0, second, 0).web, line(2))
        self.assertEqual(Join.crossed(first, second).web, line(2))
        self.assertEqual(Join.hung(first, 0, renamed(line(3)), 1).web, Web.tied(list("asu"), [("a", "s"), ("a", "u")]))

    def test_the_name_that_is_left_out(self):
        # The place to can have any name: that of at, or that of another place of the first web.
        second = Web.tied(["b", "z"], [("b", "z")])
        for at in (0, 1):
            join = Join.hung(line(2), at, second, 0)
            self.assertEqual((join.web.places, join.seconds, join.web.leads(at, 2, 0)), (("a", "b", "z"), (at, 2), True))
        self.fails(BadJoin("names"), Join.hung, line(2), 1, second, 1)
        # The name of at stays that of the place made of two.
        self.fails(BadJoin("names"), Join.hung, line(2), 0, Web(["a", "z"], []), 1)
        self.assertEqual(Join.hung(line(2), 0, Web(["a", "z"], []), 0).web.places, ("a", "b", "z"))


class Wrong(Case):
    def test_size(self):
        four, five = renamed(ring(4)), renamed(ring(5))
        for call in (Join.apart, Join.crossed):
            self.assertEqual(len(call(ring(4), four).web), 8)
            self.fails(BadJoin("size"), call, ring(4), five)
        self.assertEqual(len(Join.tied(ring(4), 3, four, 3).web), 8)
        self.fails(BadJoin("size"), Join.tied, ring(4), 0, five, 0)
        self.assertEqual(len(Join.hung(ring(4), 3, five, 4).web), 8)
        self.fails(BadJoin("size"), Join.hung, ring(5), 0, five, 0)
        self.assertEqual(len(Join.hung(full(8), 7, Web(["a"], []), 0).web), 8)
        self.fails(BadJoin("size"), Join.apart, full(8), Web(["z"], []))

    def test_beats(self):
        for call in (Join.apart, Join.crossed):
            self.fails(BadJoin("beats"), call, line(2, 2), renamed(line(2)))
            self.fails(BadJoin("beats"), call, full(8), full(8, 3))
        for call in (Join.hung, Join.tied):
            self.fails(BadJoin("beats"), call, full(8), 9, full(8, 3), 9)

    def test_places(self):
        for call in (Join.hung, Join.tied):
            for wrong in (2, -1, 100, -2):
                self.fails(BadJoin("at"), call, line(2), wrong, renamed(line(2)), 0)
                self.fails(BadJoin("at"), call, line(2), wrong, full(8), wrong)
                self.fails(BadJoin("to"), call, line(3), 2, renamed(line(2)), wrong)
                self.fails(BadJoin("to"), call, full(8), 7, line(2), wrong)
            for at, to in [(0, 0), (0, 2), (2, 0), (2, 2)]:
                self.assertEqual(call(line(3), at, renamed(line(3)), to).at, at)

    def test_names(self):
        other = Web(["x", "b"], [])
        for call in (Join.apart, Join.crossed):
            self.fails(BadJoin("names"), call, line(2), other)
            self.fails(BadJoin("names"), call, line(4), line(4))
        self.fails(BadJoin("names"), Join.tied, line(2), 1, other, 1)
        self.fails(BadJoin("names"), Join.hung, line(2), 0, other, 0)

    def test_unknown_places(self):
        join = Join.hung(line(3), 0, renamed(line(2)), 1)
        for wrong in (-1, 3, 9):
            self.fails(UnknownPlace(wrong), join.of_first, wrong)
        for wrong in (-1, 2, 3):
            self.fails(UnknownPlace(wrong), join.of_second, wrong)
        for wrong in (-1, 4, 5):
            self.fails(UnknownPlace(wrong), join.sources, wrong)


if __name__ == "__main__":
    unittest.main()
