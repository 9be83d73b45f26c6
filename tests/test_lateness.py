"""Point [58]: lateness."""

import unittest

from helpers import Case, full, line, oneway, ring
from tagwebs.deciding import decide
from tagwebs.errors import BadNumber, TooMany
from tagwebs.games import Game
from tagwebs.lateness import lateness
from tagwebs.papers import Lot, Ranks
from tagwebs.webs import Web
from test_standings import LATES, small_games


class LatenessOfGames(Case):
    def test_never(self):
        found = self.keeps(lateness, Game(ring(4), 1))
        self.assertEqual((found.number, found.ranks, found.lot), (-1, None, decide(Game(ring(4), 1))))

    def test_always(self):
        found = lateness(Game(line(2), 1))
        self.assertEqual((found.number, found.ranks, found.lot), (3, decide(Game(line(2), 1, late=3)), None))
        alone = lateness(Game(Web(["a"], []), 1, late=None))
        self.assertEqual((alone.number, alone.ranks.rounds, alone.lot), (3, 0, None))

    def test_only_without_delay(self):
        # Who sees the runner comes to its place in one round; who is told late comes to where it was.
        game = Game(full(4), 1)
        found = lateness(game)
        self.assertEqual((found.number, found.ranks, found.lot), (0, decide(game), decide(game.changed(late=1))))
        self.assertEqual((type(found.ranks), type(found.lot)), (Ranks, Lot))

    def test_one_round_late(self):
        ties = [("b", "a", "one", (0,)), ("a", "c", "two", (0,)), ("a", "d", "one", (0,)), ("d", "a", "one", (1,)),
                ("b", "c", "one", (0,)), ("d", "b", "one", (1,)), ("c", "d", "one", (0,))]
        game = Game(Web(list("abcd"), ties, beats=2), 1, late=2)
        found = lateness(game)
        self.assertEqual((found.number, found.ranks, found.lot), (1, decide(game.changed(late=1)), decide(game)))

    def test_late_of_the_game_does_not_count(self):
        for game in [Game(full(4), 1), Game(ring(4), 1), Game(oneway(3), 1, travel="fly"), Game(line(3), 1, travel="fly")]:
            all_of_them = [lateness(game.changed(late=late)) for late in LATES]
            for found in all_of_them:
                self.assertEqual(
                    (found.number, found.ranks, found.lot), (all_of_them[0].number, all_of_them[0].ranks, all_of_them[0].lot))

    def test_all_kinds(self):
        numbers = set()
        for game in [*small_games(251, 90), Game(full(3), 1), Game(full(4), 2)]:
            try:
                papers = [decide(game.changed(late=late), most=700) for late in range(4)]
            except TooMany:
                continue
            found = lateness(game, most=700)
            numbers.add(found.number)
            sure = [isinstance(paper, Ranks) for paper in papers]
            self.assertEqual(found.number, sure.index(False) - 1 if False in sure else 3)
            self.assertEqual(found.ranks, None if found.number == -1 else papers[found.number])
            self.assertEqual(found.lot, None if found.number == 3 else papers[found.number + 1])
            # There is a Ranks for every lesser number.
            self.assertEqual(sure, sorted(sure, reverse=True))
        self.assertTrue({-1, 0, 3} <= numbers, numbers)

    def test_most(self):
        # It stops at the first lot, so what comes later is not counted.
        self.assertEqual(lateness(Game(ring(4), 1), most=36).number, -1)
        self.fails(TooMany(35), lateness, Game(ring(4), 1), most=35)
        self.fails(TooMany(100), lateness, Game(full(4), 1), most=100)
        self.assertEqual(lateness(Game(full(4), 1), most=500).number, 0)
        for most in (0, -1, 20001):
            self.fails(BadNumber(most), lateness, Game(full(8), 4), most=most)


if __name__ == "__main__":
    unittest.main()
