"""Points [63] and [65]: least numbers of joined webs."""

import random
import unittest

from helpers import (
    Case, every_plain, full, joins_of, line, many_webs, oneway, renamed, ring, some_doorless, some_joins, some_plain, some_web,
    web_of,
)
from tagwebs.bagging import LeastBags, least_bags
from tagwebs.bags import Bags
from tagwebs.clearing import LeastRow, least_row
from tagwebs.errors import BadCarry, BadGame, BadNumber, NotDoorless, NotPlain, TooMany
from tagwebs.joins import Join
from tagwebs.leasts import least
from tagwebs.rows import Row
from tagwebs.shuts import Blocking, Shut
from tagwebs.sides import Sides
from tagwebs.sums import sum_bags, sum_least, sum_row
from tagwebs.webs import Web
from test_joinbags import plain_joins
from test_joinrows import doorless_joins

KINDS = ("apart", "hung", "tied", "crossed")
DOORS = web_of(2, 2, {(0, 0, 1), (0, 1, 0)})


def small_plain_joins():
    """All joins of plain webs of up to three places, each kind at each place."""
    joins = []
    webs = [web for count in (1, 2, 3) for web in every_plain(count)]
    for first in webs:
        for second in webs:
            for at in range(len(first)):
                for to in range(len(second)):
                    found = joins_of(first, second, at, to)
                    joins += found if (at, to) == (0, 0) else [join for join in found if join.kind in ("hung", "tied")]
    return joins


class SumBags(Case):
    def check(self, join):
        found = sum_bags(join)
        one, other = least_bags(join.first).number, least_bags(join.second).number
        wanted = max(one, other, 2 if join.kind == "tied" else 0)
        if join.kind == "crossed":
            wanted = min(one + len(join.second), other + len(join.first))
        self.assertEqual((type(found), found.number), (LeastBags, wanted))
        self.assertEqual(found.number, least_bags(join.web).number)
        self.assertEqual((found.bags.web, found.bags.size), (join.web, wanted))
        self.assertEqual((found.sides.web, found.sides.seekers), (join.web, wanted - 1))
        self.assertLessEqual(len(found.bags.bags), 21)
        self.assertEqual(Bags(join.web, found.bags.bags, found.bags.links), found.bags)
        self.assertEqual(Sides(join.web, wanted - 1, found.sides.rows()), found.sides)
        return found

    def test_small_webs(self):
        joins = small_plain_joins()
        kinds = [join.kind for join in joins if self.check(join)]
        self.assertGreater(min(kinds.count(kind) for kind in KINDS), 40)

    def test_larger_webs(self):
        for join in plain_joins(12):
            self.keeps(self.check, join)
        self.assertEqual(self.check(Join.crossed(full(4), renamed(full(4)))).number, 8)
        self.assertEqual(self.check(Join.apart(full(5), renamed(line(3)))).number, 5)
        self.assertEqual(self.check(Join.apart(line(3), renamed(full(5)))).number, 5)

    def test_tied_webs_without_passages(self):
        for counts in [(1, 1), (1, 3), (2, 2), (4, 4)]:
            webs = [Web(list("abcdefgh")[:count], []) for count in counts]
            for at in range(counts[0]):
                found = self.check(Join.tied(webs[0], at, renamed(webs[1]), counts[1] - 1))
                self.assertEqual((found.number, found.sides.seekers), (2, 1))

    def test_wrong(self):
        for join in joins_of(line(2), oneway(3)) + joins_of(DOORS, line(2, 2)):
            self.fails(NotPlain(), sum_bags, join)


class SumRow(Case):
    def check(self, join):
        found = sum_row(join)
        one, other = least_row(join.first).number, least_row(join.second).number
        wanted = max(one, other)
        if join.kind == "crossed":
            wanted = min(one + len(join.second), other + len(join.first))
        self.assertEqual((type(found), found.number), (LeastRow, wanted))
        self.assertEqual(found.number, least_row(join.web).number)
        self.assertEqual((found.row.web, found.row.size), (join.web, wanted))
        self.assertLessEqual(len(found.row.bags), 21)
        self.assertEqual(Row(join.web, found.row.bags), found.row)
        kind = Blocking if join.web.plain else Shut
        self.assertEqual((type(found.shut), found.shut.web, found.shut.seekers), (kind, join.web, wanted - 1))
        self.assertEqual(kind(join.web, wanted - 1, list(found.shut)), found.shut)
        return kind

    def test_all(self):
        kinds = []
        for join in [*small_plain_joins()[::3], *doorless_joins(40)]:
            if join.kind in ("apart", "crossed"):
                kinds.append((join.kind, self.check(join)))
        self.assertGreater(min(kinds.count((kind, made)) for kind in ("apart", "crossed") for made in (Shut, Blocking)), 10)

    def test_larger_webs(self):
        chance = random.Random(341)
        for _ in range(4):
            first, second = some_doorless(chance, 4, 4), renamed(some_doorless(chance, 3, 5))
            self.keeps(self.check, Join.apart(first, second))
            self.keeps(self.check, Join.crossed(first, second))
        self.keeps(self.check, Join.crossed(ring(4), renamed(line(4))))

    def test_wrong(self):
        for join in joins_of(line(2), oneway(3)):
            if join.kind in ("hung", "tied"):
                self.fails(BadCarry("kind"), sum_row, join)
        for join in joins_of(DOORS, line(2, 2)):
            self.fails(NotDoorless(), sum_row, join)


class SumLeast(Case):
    def test_walking(self):
        join = Join.apart(ring(4), renamed(line(3)))
        self.assertEqual((least(ring(4)).number, self.keeps(sum_least, join)), (2, 3))
        self.assertEqual(sum_least(Join.apart(ring(4), renamed(ring(4)))), 4)
        loose = {count: Web(list("abcd")[:count], []) for count in (1, 2, 3, 4)}
        for one, two, wanted in [(1, 1, 2), (1, 3, 4), (2, 2, 4), (3, 1, 4), (1, 4, None), (2, 3, None), (3, 2, None), (4, 4, None)]:
            self.assertEqual(sum_least(Join.apart(loose[one], renamed(loose[two]))), wanted)

    def test_a_web_without_a_number(self):
        for first, second in [(5, 1), (1, 5), (5, 2)]:
            join = Join.apart(Web(list("abcde")[:first], []), Web(list("stuvw")[:second], []))
            self.assertIsNone(sum_least(join))
            self.assertEqual(sum_least(join, travel="fly"), 1)

    def test_flying(self):
        join = Join.apart(full(4), renamed(line(3)))
        for pace in ("step", "swift"):
            for late in (0, None):
                wanted = max(least(web, travel="fly", pace=pace, late=late).number for web in (join.first, join.second))
                self.assertEqual(sum_least(join, travel="fly", pace=pace, late=late), wanted)
        self.assertEqual(sum_least(join, travel="fly", pace="swift"), 4)

    def test_that_of_the_joined_web(self):
        chance = random.Random(342)
        seen = []
        for web in many_webs(343, 14, 2, 2):
            other = some_web(chance, 1 + chance.randrange(2), web.beats, 1 + chance.randrange(9))
            join = Join.apart(web, renamed(other))
            for travel in ("walk", "fly"):
                for pace in ("step", "swift"):
                    for late in (0, 1, 2, None):
                        seen += self.as_least(join, travel=travel, pace=pace, late=late)
        for join in (Join.apart(ring(4), renamed(line(2))), Join.apart(oneway(3, 2), renamed(DOORS)), Join.apart(line(3), Web(["z"], []))):
            for travel in ("walk", "fly"):
                for pace in ("step", "swift"):
                    seen += self.as_least(join, travel=travel, pace=pace) + self.as_least(join, travel=travel, pace=pace, late=None)
        self.assertGreater(len(seen), 150)
        self.assertEqual(set(seen), {1, 2, 3})

    def as_least(self, join, **more):
        try:
            wanted = least(join.web, **more, most=3000).number
        except TooMany:
            return []
        self.assertEqual(sum_least(join, **more), wanted)
        return [wanted]

    def test_wrong(self):
        for join in joins_of(line(2), line(2)):
            if join.kind != "apart":
                self.fails(BadCarry("kind"), sum_least, join, travel="run", pace="slow", late=7, most=0)
        join = Join.apart(line(2), renamed(full(6)))
        self.fails(BadGame("travel"), sum_least, join, travel="run", pace="slow", late=7, most=0)
        self.fails(BadGame("pace"), sum_least, join, pace="slow", late=7, most=0)
        self.fails(BadGame("late"), sum_least, join, late=4, most=0)
        for most in (0, 20001):
            self.fails(BadNumber(most), sum_least, join, most=most)
        self.fails(TooMany(1), sum_least, join, most=1)
        # The first web is small enough, the second one is not.
        self.fails(TooMany(300), sum_least, join, most=300, late=3)
        self.assertEqual(least(join.first, most=300, late=3).number, 1)


if __name__ == "__main__":
    unittest.main()
