"""Point [23]: ranks."""

import unittest

import oracle
from helpers import Case, full, line, oneway, ring
from tagwebs.errors import BadNumber, BadPost, TooMany, UnknownStanding
from tagwebs.games import Game
from tagwebs.standings import answers, is_standing, standings
from tagwebs.tables import Table
from tagwebs.webs import Web
from test_standings import small_games


class Ranks(Case):
    def test_line(self):
        table = Table(Game(line(4), 1))
        ranks = {(c, r): table.rank((0, ((c,),), (r,))) for c in range(4) for r in range(4) if c != r}
        self.assertEqual(ranks, {
            (0, 1): 1, (0, 2): 3, (0, 3): 3, (1, 0): 1, (1, 2): 1, (1, 3): 2,
            (2, 0): 2, (2, 1): 1, (2, 3): 1, (3, 0): 3, (3, 1): 3, (3, 2): 1,
        })
        self.assertEqual([table.longest((c,)) for c in range(4)], [3, 2, 2, 3])

    def test_ring(self):
        table = Table(Game(ring(4), 1))
        self.assertEqual([table.rank((0, ((0,),), (r,))) for r in (1, 2, 3)], [1, None, 1])
        self.assertIsNone(table.longest((0,)))
        two = Table(Game(ring(4), 2))
        self.assertEqual([two.longest((0, 2)), two.longest((0, 0)), two.longest((0, 1))], [1, 2, 1])

    def test_no_free_place(self):
        table = Table(Game(line(2), 2, travel="fly"))
        self.assertEqual([table.longest(post) for post in [(0, 1), (0,), ()]], [0, 1, 1])
        self.assertEqual(len(Table(Game(Web(["a"], []), 1))), 0)

    def test_unreachable_runner(self):
        table = Table(Game(oneway(3), 1))
        self.assertEqual([table.rank((0, ((0,),), (r,))) for r in (1, 2)], [1, None])

    def test_played_out(self):
        used = 0
        for game in small_games(71, 90):
            try:
                table = Table(game, most=900)
            except TooMany:
                continue
            used += 1
            moves, found = oracle.all_ranks(game)
            self.assertEqual({oracle.state_of(game, standing) for standing in table}, set(moves))
            for standing in table:
                self.assertEqual(table.rank(standing), found.get(oracle.state_of(game, standing)))
            for post in oracle.all_posts(game):
                self.assertEqual(table.longest(post), oracle.longest(game, found, post))
        self.assertGreater(used, 50)

    def test_least_number(self):
        for game in small_games(72, 40):
            try:
                table = Table(game, most=600)
            except TooMany:
                continue
            for standing in table:
                best = []
                for post in game.sends(standing[0], standing[1][-1]):
                    ranks = [table.rank(other) for other in answers(game, standing, post)]
                    if None not in ranks:
                        best.append(1 + max([0, *ranks]))
                self.assertEqual(table.rank(standing), min(best, default=None))


class LikeAList(Case):
    def test_standings(self):
        for game in [Game(ring(4), 1, late=1), Game(line(3, 2), 2, travel="fly", late=None)]:
            table = Table(game)
            self.assertEqual(list(table), standings(game))
            self.assertEqual(len(table), len(standings(game)))
            self.assertTrue(all(standing in table for standing in standings(game)))

    def test_in(self):
        game = Game(line(3, 2), 1, late=1)
        table = Table(game)
        for other in [(), (0,), (0, ((0,),), ()), (0, ((0,), (2,)), (1,)), (1, ((0,),), (1, 2)), (0, 1, 2), ((), (), ()),
                      (0, ((0,),), (2, 1)), (2, ((0,),), (1, 2)), (0, (0,), (1, 2)), (0, (((0,),),), (1, 2)),
                      (0, ((0,),), ((1,), (2,))), ("0", ((0,),), (1, 2)), (0, ((0,),), (1, 2), 0)]:
            self.assertIs(other in table, False, other)
        self.assertIs((0, ((0,),), (1, 2)) in table, True)

    def test_a_standing_that_does_not_come_up(self):
        game = Game(Web(["a", "b", "c"], []), 1, late=None)
        table = Table(game)
        standing = (0, ((1,),), (0,))
        self.assertTrue(is_standing(game, standing))
        self.assertIs(standing in table, False)
        self.fails(UnknownStanding(standing), table.rank, standing)
        self.assertEqual(list(table), [(0, ((0,),), (1, 2)), (0, ((1,),), (0, 2)), (0, ((2,),), (0, 1))])

    def test_wrong(self):
        game = Game(line(3), 1)
        table = Table(game)
        for standing in [(0, ((0,),), (0,)), (1, ((0,),), (1,)), (0, ((0,), (1,)), (2,)), (0, (), ())]:
            self.fails(UnknownStanding(standing), table.rank, standing)
        for post in [(3,), (), (0, 0)]:
            self.fails(BadPost(post), table.longest, post)
        self.assertEqual([table.rank((0, ((0,),), (2,))), len(table)], [2, 6])

    def test_most(self):
        game = Game(ring(4), 1)
        self.assertEqual(len(Table(game, most=36)), 12)
        self.fails(TooMany(35), Table, game, most=35)
        self.fails(TooMany(6000), Table, Game(full(8), 2))
        self.assertEqual(len(Table(Game(full(8), 2), most=20000)), 224)
        for most in (0, 20001, -5):
            self.fails(BadNumber(most), Table, Game(full(8), 4), most=most)


if __name__ == "__main__":
    unittest.main()
