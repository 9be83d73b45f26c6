"""Points [47], [48] and [49]: shut families, blockings, and the sets that can be clean."""

import random
import unittest

from helpers import Case, every_doorless, every_plain, full, line, oneway, ring, some_doorless, some_plain, subsets, web_of
from tagwebs.errors import BadNumber, BadShut, NotDoorless, NotPlain, TagError
from tagwebs.reaching import rim
from tagwebs.shuts import Blocking, Shut, clean_sets
from tagwebs.webs import Web

LINE = line(3)
SETS = [(), (0,), (0, 1), (1,), (2,)]
DOORS = web_of(2, 2, {(0, 0, 1), (0, 1, 0)})


def asked(web, seekers, places):
    """The sets that a family with this set must have, as point [47] describes them."""
    edge = rim(web, places)
    found = {fewer for fewer in subsets(places) if len(rim(web, fewer)) <= seekers}
    for place in range(len(web)):
        if place not in places and len({place, *edge}) <= seekers:
            found.add(tuple(sorted([*places, place])))
    return found


def partings(web, seekers):
    """All partings, as point [48] describes them."""
    found = []
    every = subsets(range(len(web)))
    for first in every:
        for second in every:
            only, other = set(first) - set(second), set(second) - set(first)
            if len(set(first) | set(second)) < len(web) or len(set(first) & set(second)) > seekers:
                continue
            if not any(web.leads(u, v, 0) for u in only for v in other):
                found.append((first, second))
    return found


class Making(Case):
    def test_line(self):
        shut = self.holds(lambda sets: Shut(LINE, 1, sets), SETS)
        self.assertEqual((shut.web, shut.seekers, len(shut), list(shut)), (LINE, 1, 5, SETS))
        self.assertEqual([places in shut for places in [(), (0, 1), (1, 2), (0, 2), (0, 1, 2), (9,), (1, 0)]], [
            True, True, False, False, False, False, False])
        self.assertEqual(list(Shut(LINE, 1, SETS[::-1])), SETS)
        sets = list(SETS)
        shut = Shut(LINE, 1, sets)
        sets.clear()
        self.assertEqual(list(shut), SETS)

    def test_least_family(self):
        # No set with a passage into both of its ends has to be in the family.
        self.assertEqual(list(Shut(LINE, 1, clean_sets(LINE, 1))), [(), (0,), (1,), (2,)])

    def test_no_seekers(self):
        self.assertEqual(list(Shut(LINE, 0, [()])), [()])
        self.assertEqual(list(Shut(Web(["a"], []), 0, [()])), [()])
        apart = Web(list("abc"), [])
        self.assertEqual(len(Shut(apart, 0, [(), (0,), (0, 1), (1,)])), 4)
        self.fails(BadShut("answer", 1), Shut, apart, 0, [(), (0, 1), (0,)])
        way = web_of(2, 1, {(0, 0, 1)})
        # No passage leads into the place a, so it stays clean by itself.
        self.assertEqual(list(Shut(way, 0, [(), (0,)])), [(), (0,)])
        self.fails(BadShut("set", 1), Shut, way, 0, [(), (1,)])

    def test_eight_seekers(self):
        # They can clean any place of any web, so nothing shuts them off.
        self.fails(BadShut("answer", 0), Shut, Web(["a"], []), 8, [()])
        every = [places for places in subsets(range(8)) if len(places) < 8]
        self.fails(BadShut("answer", every.index((0, 1, 2, 3, 4, 5, 6))), Shut, full(8), 8, every)
        self.assertEqual(len(Shut(full(8), 7, every)), 255)

    def test_seekers(self):
        for seekers in (-1, 9, 10 ** 9):
            self.fails(BadShut("seekers", 0), Shut, LINE, seekers, [(9,)])
            self.fails(BadShut("seekers", 0), Blocking, LINE, seekers, [(9,)])

    def test_set(self):
        for wrong in [(3,), (-1,), (1, 0), (0, 0), (0, 1, 2), (0,), (0, 2)]:
            self.fails(BadShut("set", 2), Shut, LINE, 1, [(), (0,), wrong, (0,), (9,)])
            self.fails(BadShut("set", 2), Blocking, LINE, 1, [(), (0,), wrong, (0,), (9,)])
        self.fails(BadShut("set", 1), Shut, LINE, 1, [(), ()])

    def test_rims_of_as_many_places_as_seekers_and_one_more(self):
        web = ring(5)
        sets = clean_sets(web, 2)
        self.assertEqual(rim(web, (0, 1, 2)), (0, 2))
        self.assertIn((0, 1), sets)
        self.assertEqual(list(Shut(web, 2, sets)), sets)
        self.fails(BadShut("set", len(sets)), Shut, web, 2, [*sets, (0, 1, 3)])
        self.fails(BadShut("set", 0), Shut, web, 1, [(0, 1)])
        self.fails(BadShut("set", 0), Shut, web, 2, [(0, 1, 3)])
        # With a rim of one place less than there are seekers, each place more is asked for.
        self.fails(BadShut("answer", 1), Shut, web, 2, [(), (0,), (1,), (2,), (3,), (4,)])

    def test_empty(self):
        self.fails(BadShut("empty", 0), Shut, LINE, 1, [])
        self.fails(BadShut("empty", 0), Shut, LINE, 1, SETS[1:])
        self.fails(BadShut("empty", 0), Blocking, LINE, 1, [(0, 1)])

    def test_answer(self):
        self.fails(BadShut("answer", 0), Shut, LINE, 1, [()])
        self.fails(BadShut("answer", 0), Shut, LINE, 1, [(0, 1), (), (0,), (2,)])
        self.fails(BadShut("answer", 2), Shut, LINE, 1, [(0,), (0, 1), (), (1,)])
        # All places would have to be in the family, but cannot.
        self.fails(BadShut("answer", 3), Shut, LINE, 2, [(), (0,), (1,), (0, 1), (2,), (0, 2), (1, 2)])

    def test_order_of_checks(self):
        self.fails(NotDoorless(), Shut, DOORS, 9, [])
        self.fails(NotPlain(), Blocking, DOORS, 9, [])
        self.fails(NotPlain(), Blocking, oneway(3), 9, [])
        self.fails(BadShut("set", 1), Shut, LINE, 1, [(0, 1), (9,)])
        self.fails(BadShut("empty", 0), Shut, LINE, 1, [(0, 1)])

    def test_what_is_made_is_what_is_described(self):
        chance = random.Random(191)
        made = 0
        for at in range(900):
            web = some_doorless(chance, 1 + chance.randrange(4), 1 + chance.randrange(5), 1 + at % 2)
            seekers = chance.randrange(3)
            narrow = [places for places in subsets(range(len(web))) if len(rim(web, places)) <= seekers]
            sets = [places for places in narrow if chance.randrange(5)]
            if chance.randrange(2):
                # A family that is nearly what the rules ask for.
                sets = clean_sets(web, seekers)
                for extra in narrow:
                    if chance.randrange(4) == 0:
                        sets = sorted({*sets, *self.grown(web, seekers, extra)})
            made += self.check(web, seekers, sets)
        self.assertGreater(made, 100)

    def grown(self, web, seekers, places):
        found, ahead = set(), [places]
        while ahead:
            one = ahead.pop()
            if one not in found:
                found.add(one)
                ahead.extend(asked(web, seekers, one))
        return found

    def check(self, web, seekers, sets):
        fine = () in sets and tuple(range(len(web))) not in sets
        fine = fine and all(other in sets for places in sets for other in asked(web, seekers, places))
        try:
            Shut(web, seekers, sets)
        except TagError as error:
            self.assertIs(type(error), BadShut)
            self.assertFalse(fine)
        else:
            self.assertTrue(fine)
        if web.plain:
            fine = fine and all((a in sets) != (b in sets) for a, b in partings(web, seekers))
            try:
                Blocking(web, seekers, sets)
            except TagError as error:
                self.assertIs(type(error), BadShut)
                self.assertFalse(fine)
            else:
                self.assertTrue(fine)
        return fine


class Blockings(Case):
    def test_example(self):
        web = Web.tied(["a", "b", "c"], [("a", "b"), ("b", "c")])
        blocking = self.holds(lambda sets: Blocking(web, 1, sets), [(), (0,), (1,), (2,), (0, 1)])
        self.assertEqual([clean_sets(web, 1), list(blocking)], [[(), (0,), (1,), (2,)], [(), (0,), (0, 1), (1,), (2,)]])
        self.assertEqual((blocking.web, blocking.seekers, len(blocking)), (web, 1, 5))
        self.assertIsInstance(blocking, Shut)
        self.assertEqual([(0, 1) in blocking, (1, 2) in blocking], [True, False])

    def test_parting(self):
        # The family lacks one of (0, 1) and (1, 2), or has both of them.
        self.fails(BadShut("parting", 0), Blocking, LINE, 1, [(), (0,), (1,), (2,)])
        self.fails(BadShut("parting", 0), Blocking, LINE, 1, [(), (0,), (1,), (2,), (0, 1), (1, 2)])
        self.assertEqual(len(Shut(LINE, 1, [(), (0,), (1,), (2,), (0, 1), (1, 2)])), 6)

    def test_no_seekers(self):
        self.assertEqual(list(Blocking(LINE, 0, [()])), [()])
        apart = Web(["a", "b"], [])
        self.fails(BadShut("parting", 0), Blocking, apart, 0, [()])
        self.fails(BadShut("parting", 0), Blocking, apart, 0, [(), (0,), (1,)])
        self.assertEqual([list(Blocking(apart, 0, [(), (at,)])) for at in range(2)], [[(), (0,)], [(), (1,)]])

    def test_order_of_checks(self):
        self.fails(BadShut("answer", 0), Blocking, LINE, 1, [()])
        self.fails(BadShut("set", 1), Blocking, LINE, 1, [(), (0, 2)])

    def test_equal(self):
        shut, blocking = Shut(LINE, 1, SETS), Blocking(LINE, 1, SETS)
        self.assertTrue(shut == Shut(line(3), 1, tuple(SETS[::-1])))
        self.assertTrue(blocking == Blocking(line(3), 1, SETS[::-1]))
        self.assertFalse(shut == blocking)
        self.assertFalse(blocking == shut)
        for make in (Shut, Blocking):
            one = make(LINE, 0, [()])
            self.assertFalse(one == make(line(3, 2), 0, [()]))
            self.assertFalse(one == make(line(2), 0, [()]))
            self.assertFalse(one == [()])
        self.assertFalse(Shut(LINE, 1, SETS) == Shut(LINE, 1, SETS[:2] + SETS[3:]))
        self.assertFalse(blocking == Blocking(LINE, 1, [(), (0,), (1,), (1, 2), (2,)]))
        alone = Web(["a"], [])
        self.assertFalse(Shut(alone, 0, [()]) == Shut(Web(["b"], []), 0, [()]))
        way = web_of(3, 1, {(0, 0, 1), (0, 1, 2), (0, 2, 0)})
        self.assertFalse(Shut(way, 0, [()]) == Shut(way, 1, clean_sets(way, 1)))


class CleanSets(Case):
    def test_some(self):
        self.assertEqual(self.keeps(clean_sets, LINE, 2), subsets(range(3)))
        self.assertEqual(clean_sets(LINE, 0), [()])
        self.assertEqual(clean_sets(Web(["a", "b"], [], beats=2), 1), [(), (0,), (0, 1), (1,)])
        self.assertEqual(clean_sets(Web(["a"], []), 8), [(), (0,)])
        self.assertEqual(clean_sets(full(4), 2), subsets(range(4), 2))
        # From a to b only: b can be cleaned after a, but not kept without holding it.
        self.assertEqual(clean_sets(web_of(2, 1, {(0, 0, 1)}), 1), [(), (0,), (0, 1), (1,)])
        self.assertEqual(clean_sets(oneway(3), 1), [(), (0,), (1,), (2,)])

    def test_one_way_passages(self):
        # Into c lead passages from both others, so it is cleaned last, or held.
        web = web_of(3, 1, {(0, 0, 2), (0, 1, 2)})
        self.assertEqual(clean_sets(web, 1), subsets(range(3)))
        # From c to both others: these two cannot be held at once, as long as c is not clean.
        self.assertEqual(clean_sets(web.backward(), 1), [places for places in subsets(range(3)) if places != (0, 1)])

    def test_closed_and_least(self):
        chance = random.Random(192)
        webs = [web for count in (1, 2, 3) for web in every_doorless(count)] + every_plain(4)
        webs += [some_doorless(chance, 5, share) for share in (2, 3, 4, 5)] + [some_plain(chance, 6, 4)]
        for web in webs:
            for seekers in range(4):
                found = {()}
                while True:
                    more = {other for places in found for other in asked(web, seekers, places)}
                    if more <= found:
                        break
                    found |= more
                self.assertEqual(clean_sets(web, seekers), sorted(found))

    def test_eight_places(self):
        self.assertEqual(len(clean_sets(full(8), 7)), 255)
        self.assertEqual(len(clean_sets(full(8), 8)), 256)
        self.assertEqual(len(clean_sets(Web(list("abcdefgh"), []), 1)), 256)

    def test_wrong(self):
        for seekers in (-1, 9, 10 ** 9):
            self.fails(BadNumber(seekers), clean_sets, LINE, seekers)
            self.fails(NotDoorless(), clean_sets, DOORS, seekers)


if __name__ == "__main__":
    unittest.main()
