"""Point [28]: the least numbers of seekers."""

import unittest

import oracle
from helpers import Case, full, line, many_webs, oneway, ring, web_of
from tagwebs.deciding import decide
from tagwebs.errors import BadGame, BadNumber, TooMany
from tagwebs.games import Game
from tagwebs.leasts import Least, least, least_numbers
from tagwebs.papers import Lot, Ranks
from tagwebs.webs import Web


class LeastOnes(Case):
    def test_line_and_ring(self):
        one = self.keeps(least, line(4))
        self.assertIsInstance(one, Least)
        self.assertEqual((one.number, one.ranks, one.lot), (1, decide(Game(line(4), 1)), None))
        two = least(ring(4))
        self.assertEqual((two.number, two.ranks, two.lot), (2, decide(Game(ring(4), 2)), decide(Game(ring(4), 1))))
        self.assertIsInstance(two.lot, Lot)

    def test_arguments_are_passed_on(self):
        found = least(ring(4), travel="fly", pace="swift", late=None)
        self.assertEqual(found.number, 3)
        game = Game(ring(4), 3, travel="fly", pace="swift", late=None)
        self.assertEqual((found.ranks, found.lot), (decide(game), decide(game.changed(seekers=2))))
        self.assertEqual(least(full(4), travel="fly", pace="swift").number, 4)
        self.assertEqual(least(full(4), pace="swift", late=1).ranks.game, Game(full(4), 2, pace="swift", late=1))

    def test_four_walkers_are_not_enough(self):
        apart = Web(list("abcde"), [])
        found = least(apart)
        self.assertEqual((found.number, found.ranks), (None, None))
        self.assertEqual(found.lot, decide(Game(apart, 4)))
        self.assertEqual(least(Web(list("abcd"), [])).number, 4)
        self.assertEqual(least(apart, travel="fly").number, 1)

    def test_flying_is_always_enough(self):
        self.assertEqual(least(full(5), travel="fly", pace="swift", late=0).number, 5)
        self.assertEqual(least(full(6), travel="fly", pace="swift", most=20000).number, 6)
        self.assertEqual(least(full(6), travel="fly", pace="swift", late=None, most=20000).number, 6)
        self.assertEqual([least(line(6), travel="fly", pace=pace, most=20000).number for pace in ("step", "swift")], [2, 2])

    def test_played_out(self):
        for web in many_webs(101, 25, 3, 2):
            for travel, pace, late in [("walk", "step", 0), ("fly", "swift", 1), ("walk", "swift", None), ("fly", "step", 2)]:
                found = least(web, travel=travel, pace=pace, late=late, most=20000)
                for seekers in range(1, found.number + 1):
                    game = Game(web, seekers, travel=travel, pace=pace, late=late)
                    rounds = oracle.rounds(game)
                    self.assertEqual(rounds is not None, seekers == found.number)
                self.assertEqual(found.ranks.rounds, rounds)
                self.assertEqual(found.lot is None, found.number == 1)

    def test_wrong(self):
        web = line(3)
        self.fails(BadGame("travel"), least, web, travel="run", pace="", late=9, most=0)
        self.fails(BadGame("pace"), least, web, pace="", late=9, most=0)
        self.fails(BadGame("late"), least, web, late=-1, most=0)
        for most in (0, 20001, -1):
            self.fails(BadNumber(most), least, web, most=most)
            self.fails(BadNumber(most), least_numbers, web, most=most)

    def test_most(self):
        # One seeker on a ring of four has 36 moves; two have more.
        self.fails(TooMany(35), least, ring(4), most=35)
        self.fails(TooMany(36), least, ring(4), most=36)
        self.assertEqual(least(ring(4), most=20000).number, 2)
        self.assertEqual(least(line(4), most=sum(3 * len(Game(line(4), 1).sends(0, (c,))) for c in range(4))).number, 1)
        self.fails(TooMany(6000), least, full(8), late=1, travel="fly")


class Numbers(Case):
    def test_order(self):
        found = self.keeps(least_numbers, ring(4), most=20000)
        self.assertEqual([row[:3] for row in found], [
            (travel, pace, late) for travel in ("walk", "fly") for pace in ("step", "swift") for late in (0, 1, None)])
        for travel, pace, late, number in found:
            self.assertEqual(number, least(ring(4), travel=travel, pace=pace, late=late, most=20000).number)

    def test_some(self):
        self.assertEqual([row[3] for row in least_numbers(Web(["a"], []))], [1] * 12)
        self.assertEqual([row[3] for row in least_numbers(line(3))], [1] * 6 + [2] * 6)
        self.assertEqual([row[3] for row in least_numbers(Web(list("abcde"), []), most=20000)], [None] * 6 + [1] * 6)
        self.assertEqual(len(least_numbers(oneway(3))), 12)
        self.assertEqual(len(least_numbers(web_of(3, 2, {(0, 0, 1), (1, 1, 2)}))), 12)

    def test_wrong(self):
        self.fails(TooMany(5), least_numbers, ring(4), most=5)
        self.fails(TooMany(6000), least_numbers, full(8))


if __name__ == "__main__":
    unittest.main()
