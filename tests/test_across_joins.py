"""Point [89], and points [85] and [88] as far as they speak of joined webs: what holds across joined webs and products."""

import random
import unittest

from helpers import Case, every_plain, joins_of, line, renamed, ring, some_doorless, some_plain
from tagwebs.bagging import least_bags
from tagwebs.clearing import least_row
from tagwebs.corners import fold_up
from tagwebs.deciding import decide
from tagwebs.errors import TooMany
from tagwebs.games import Game
from tagwebs.joins import Join
from tagwebs.leasts import least
from tagwebs.papers import Ranks
from tagwebs.products import box, strong
from tagwebs.reaching import is_joined

SMALL = [web for count in (1, 2, 3, 4) for web in every_plain(count)]


def whole(web):
    return fold_up(web).whole


class Foldings(Case):
    def test_hung_and_tied(self):
        seen = {True: 0, False: 0}
        for first in [*SMALL, ring(5)]:
            for second in SMALL:
                if len(first) + len(second) > 8:
                    continue
                for at in range(len(first)):
                    to = (at + len(first)) % len(second)
                    for join in joins_of(first, second, at, to):
                        if join.kind in ("hung", "tied"):
                            wanted = whole(first) and whole(second)
                            seen[wanted] += 1
                            self.assertIs(whole(join.web), wanted)
        self.assertGreater(min(seen.values()), 100)

    def test_crossed(self):
        seen = {True: 0, False: 0}
        for first in SMALL:
            for second in SMALL:
                wanted = whole(first) or whole(second)
                seen[wanted] += 1
                join = Join.crossed(first, renamed(second))
                self.assertIs(whole(join.web), wanted)
                if len(join.web) <= 6 or not (seen[True] + seen[False]) % 20:
                    self.assertEqual(least(join.web, most=20000).number, 1 if wanted else 2)
        self.assertGreater(min(seen.values()), 20)

    def test_strong(self):
        seen = {True: 0, False: 0}
        for first in SMALL:
            for second in SMALL:
                if len(first) * len(second) <= 8:
                    wanted = whole(first) and whole(second)
                    seen[wanted] += 1
                    self.assertIs(whole(strong(first, second)), wanted)
        self.assertGreater(min(seen.values()), 10)

    def test_box(self):
        seen = 0
        for first in [web for web in SMALL if len(web) > 1 and is_joined(web)]:
            for second in [web for web in SMALL if len(web) > 1 and is_joined(web)]:
                if len(first) * len(second) <= 8:
                    seen += 1
                    self.assertEqual(fold_up(box(first, second)).folds, ())
        self.assertGreater(seen, 10)


class Parts(Case):
    def test_plain_webs(self):
        chance = random.Random(371)
        less = 0
        for web in [*SMALL[4:], ring(6), *[some_plain(chance, 6, share) for share in (3, 5, 7)]]:
            for _ in range(4):
                places = chance.sample(range(len(web)), 1 + chance.randrange(len(web)))
                part = web.restricted(places)
                less += least_bags(part).number < least_bags(web).number
                self.assertLessEqual(least_bags(part).number, least_bags(web).number)
                self.assertLessEqual(least_row(part).number, least_row(web).number)
        self.assertGreater(less, 10)

    def test_doorless_webs(self):
        chance = random.Random(372)
        less = 0
        for _ in range(25):
            web = some_doorless(chance, 3 + chance.randrange(4), 2 + chance.randrange(6), 1 + chance.randrange(2))
            for _ in range(3):
                part = web.restricted(chance.sample(range(len(web)), 1 + chance.randrange(len(web))))
                less += least_row(part).number < least_row(web).number
                self.assertLessEqual(least_row(part).number, least_row(web).number)
        self.assertGreater(less, 10)

    def test_the_two_webs_of_a_join(self):
        chance = random.Random(373)
        for _ in range(10):
            first, second = some_plain(chance, 3, 5), some_plain(chance, 4, 5)
            for join in joins_of(first, second, chance.randrange(3), chance.randrange(4)):
                for half in (join.first, join.second):
                    self.assertLessEqual(least_bags(half).number, least_bags(join.web).number)
                    self.assertLessEqual(least_row(half).number, least_row(join.web).number)


def rounds(game, most=3000):
    """The rounds of a game as point [84] says, or None if there are too many moves to tell."""
    try:
        paper = decide(game, most=most)
    except TooMany:
        return None
    return paper.rounds if isinstance(paper, Ranks) else 10 ** 9


class Joined(Case):
    def test_rounds_on_joined_webs(self):
        # The same two webs, with more and more passages: those who fly need no fewer rounds.
        told = 0
        for first in SMALL[:8]:
            for second in SMALL[:8]:
                if len(first) + len(second) > 5:
                    continue
                second = renamed(second)
                joins = [Join.apart(first, second), Join.tied(first, 0, second, 0), Join.crossed(first, second)]
                webs = [join.web for join in joins]
                for pace in ("step", "swift"):
                    for late in (0, 1, None):
                        for seekers in (1, 2):
                            found = [rounds(Game(web, seekers, travel="fly", pace=pace, late=late)) for web in webs]
                            found = [number for number in found if number is not None]
                            told += len(found)
                            self.assertEqual(found, sorted(found))
        self.assertGreater(told, 500)

    def test_order_and_names(self):
        for first, second in [(line(2), ring(3)), (ring(4), line(1))]:
            for one, other in zip(joins_of(first, second, 1, 0), joins_of(second, first, 0, 1)):
                if one.kind == "hung":
                    continue
                behind = len(other.first)
                turned = other.web.restricted([*range(behind, len(other.web)), *range(behind)]).renamed(one.web.places)
                self.assertEqual(turned, one.web)
                for seekers in (1, 2):
                    for travel in ("walk", "fly"):
                        game = Game(one.web, seekers, travel=travel, late=1)
                        self.assertEqual(rounds(game), rounds(game.changed(web=other.web)))

    def test_those_who_walk_are_not_more_than_those_who_fly(self):
        told = 0
        for first in SMALL[1:8]:
            for second in SMALL[1:8]:
                for join in joins_of(first, second, 0, len(second) - 1):
                    if len(join.web) > 5 or not is_joined(join.web):
                        continue
                    bags, row = least_bags(join.web).number, least_row(join.web).number
                    self.assertLessEqual(least(join.web).number, 1 + (bags - 1) // 2)
                    if bags <= 4:
                        self.assertLessEqual(least(join.web, pace="swift", most=20000).number, bags)
                    if row <= 3 and len(join.web) <= 4:
                        told += 1
                        self.assertLessEqual(least(join.web, pace="swift", late=None, most=20000).number, row)
        self.assertGreater(told, 8)


if __name__ == "__main__":
    unittest.main()
