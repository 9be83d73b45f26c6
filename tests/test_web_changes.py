"""Points [8] and [9]: webs out of webs."""

import unittest

from helpers import Case, full, line, many_webs, oneway, passages, ring, web_of
from tagwebs.errors import BadNumber, BadWeb, UnknownPlace, Unlike
from tagwebs.webs import Web


def made(web, places, beats, found):
    """True if a web has these places, beats and passages."""
    return web.places == tuple(places) and web.beats == beats and passages(web) == found


class Together(Case):
    def test_or_and_minus(self):
        webs = many_webs(11, 60, 4, 2)
        count = 0
        for a in webs:
            for b in webs:
                if a.places != b.places or a.beats != b.beats:
                    continue
                count += 1
                one, other = passages(a), passages(b)
                self.assertTrue(made(a | b, a.places, a.beats, one | other))
                self.assertTrue(made(a & b, a.places, a.beats, one & other))
                self.assertTrue(made(a - b, a.places, a.beats, one - other))
                self.assertIs(a.within(b), one <= other)
                self.assertEqual((passages(a), passages(b)), (one, other))
        self.assertGreater(count, 200)

    def test_unlike(self):
        web = line(3)
        others = [line(2), line(3, 2), Web.tied(["a", "c", "b"], [("a", "b")]), Web.tied(["a", "b", "x"], [])]
        for other in others:
            self.fails(Unlike(), lambda: web | other)
            self.fails(Unlike(), lambda: web & other)
            self.fails(Unlike(), lambda: web - other)
            self.fails(Unlike(), web.within, other)

    def test_one_way_within_two_ways(self):
        self.assertTrue(oneway(3).within(ring(3)))
        self.assertFalse(ring(3).within(oneway(3)))
        self.assertEqual(ring(3) - oneway(3), oneway(3).backward())


class Turned(Case):
    def test_turned(self):
        for web in many_webs(12, 40, 4, 4):
            for count in (0, 1, 2, 5, -1, -7, 10 ** 9, -10 ** 9):
                found = {((beat - count) % web.beats, u, v) for beat, u, v in passages(web)}
                self.assertTrue(made(web.turned(count), web.places, web.beats, found))

    def test_unrolled(self):
        for web in many_webs(13, 40, 4, 4):
            for times in range(1, 4 // web.beats + 1):
                found = {(beat + web.beats * k, u, v) for beat, u, v in passages(web) for k in range(times)}
                self.assertTrue(made(web.unrolled(times), web.places, web.beats * times, found))
            for times in (0, -1, -10 ** 9, 4 // web.beats + 1, 10 ** 9):
                self.fails(BadNumber(times), web.unrolled, times)

    def test_backward(self):
        for web in many_webs(14, 40, 4, 4):
            found = {(beat, v, u) for beat, u, v in passages(web)}
            self.assertTrue(made(web.backward(), web.places, web.beats, found))


class Restricted(Case):
    def test_order_and_passages(self):
        web = Web(["a", "b", "c", "d"], [("a", "b", "one", (1,)), ("c", "a", "two", (0,)), ("b", "d", "two", (0, 1))], beats=2)
        self.assertTrue(made(web.restricted([2, 0]), ("c", "a"), 2, {(0, 0, 1), (0, 1, 0)}))
        self.assertTrue(made(self.holds(web.restricted, [1, 0]), ("b", "a"), 2, {(1, 1, 0)}))
        self.assertTrue(made(web.restricted((3,)), ("d",), 2, set()))
        self.assertEqual(web.restricted([0, 1, 2, 3]), web)

    def test_all(self):
        for web in many_webs(15, 40, 5, 3):
            places = list(range(len(web)))[::-2]
            found = {(beat, places.index(u), places.index(v)) for beat, u, v in passages(web) if u in places and v in places}
            self.assertTrue(made(web.restricted(places), [web.places[p] for p in places], web.beats, found))

    def test_wrong(self):
        web = line(3)
        self.fails(BadWeb("places", 0), web.restricted, [])
        self.fails(BadWeb("places", 0), web.restricted, ())
        for place, places in [(3, [3]), (-1, [0, -1, 3]), (0, [0, 1, 0, 9]), (2, [2, 2]), (9, [1, 9, 1]), (1, [0, 1, 2, 1])]:
            self.fails(UnknownPlace(place), web.restricted, places)


class Renamed(Case):
    def test_renamed(self):
        web = web_of(3, 2, {(0, 0, 1), (1, 2, 0)})
        self.assertTrue(made(self.holds(web.renamed, ["x", "a", "b"]), ("x", "a", "b"), 2, passages(web)))
        self.assertEqual(web.renamed(["a", "b", "c"]), web)

    def test_wrong(self):
        web = full(3)
        for names in ([], ["x"], ["A", "b"], ["a", "a", "c", "d"], list("abcdefghi")):
            self.fails(BadWeb("places", 0), web.renamed, names)
        for at, names in [(0, ["A", "a", "a"]), (1, ["a", "a", ""]), (2, ["a", "b", "a"]), (1, ["a", "abcdefghi", "c"])]:
            self.fails(BadWeb("place", at), web.renamed, names)


class Unchanged(Case):
    def test_no_web_changes(self):
        for web in many_webs(16, 20, 4, 2):
            before = (web.places, web.beats, passages(web))
            web.turned(1), web.unrolled(1), web.backward(), web.restricted([0]), web.renamed(["x", "y", "z", "u"][: len(web)])
            self.fails(BadNumber(0), web.unrolled, 0)
            self.fails(UnknownPlace(8), web.restricted, [0, 8])
            self.assertEqual((web.places, web.beats, passages(web)), before)


if __name__ == "__main__":
    unittest.main()
