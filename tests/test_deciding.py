"""Point [27]: decide and rank_from."""

import unittest

import oracle
from helpers import Case, full, line, oneway, ring, web_of
from tagwebs.deciding import decide, rank_from
from tagwebs.errors import BadNumber, TooMany, UnknownStanding
from tagwebs.games import Game
from tagwebs.papers import Lot, Ranks
from tagwebs.standings import answers, is_standing
from tagwebs.tables import Table
from tagwebs.webs import Web
from test_standings import LATES, small_games


def at(c, r):
    return (0, ((c,),), (r,))


class Decide(Case):
    def test_example(self):
        web = Web.tied(["a", "b", "c"], [("a", "b"), ("b", "c")])
        self.assertEqual(
            [decide(Game(web, 1)).told(), decide(Game(web, 1)).first, decide(Game(web, 1, travel="fly", pace="swift")).told()],
            ["caught within 1", (1,), "free for ever"])

    def test_one_place(self):
        web = Web(["a"], [], beats=4)
        for late in LATES:
            walk = decide(Game(web, 4, late=late))
            self.assertEqual((walk.told(), walk.first, walk.rows()), ("caught within 0", (0, 0, 0, 0), []))
            fly = decide(Game(web, 8, travel="fly", pace="swift", late=late))
            self.assertEqual((fly.told(), fly.first), ("caught within 0", (0,)))
        fly = decide(Game(web, 1, travel="fly"))
        self.assertEqual(fly.rows(), [((beat, ((),), (0,)), 1, (0,)) for beat in range(4)])

    def test_least_post_of_several(self):
        # On a full web every opening is as good as every other.
        game = Game(full(3), 1)
        paper = decide(game)
        self.assertEqual((paper.first, paper.rounds), ((0,), 1))
        # Both seekers, or one of them, can go to the runner: the least post counts.
        twin = decide(Game(full(3), 2))
        self.assertEqual((twin.first, twin.rounds), ((0, 0), 1))
        self.assertEqual([twin.send((0, ((0, 0),), (r,))) for r in (1, 2)], [(0, 1), (0, 2)])
        self.assertEqual(twin.send((0, ((0, 1),), (2,))), (0, 2))

    def test_a_post_that_is_good_only_later_is_not_taken(self):
        game = Game(line(5), 1)
        paper = decide(game)
        self.assertEqual((paper.first, paper.rounds), ((2,), 2))
        self.assertEqual([paper.send(at(0, 2)), paper.send(at(4, 2)), paper.send(at(2, 4))], [(1,), (3,), (3,)])

    def test_lot(self):
        paper = decide(Game(ring(4), 1))
        self.assertEqual(paper.rows(), [at(0, 2), at(1, 3), at(2, 0), at(3, 1)])
        self.assertEqual(len(decide(Game(ring(5), 1))), 10)

    def test_rows_are_all_that_have_ranks(self):
        paper = decide(Game(ring(4), 2))
        table = Table(Game(ring(4), 2))
        self.assertEqual(list(paper), [standing for standing in table if table.rank(standing) is not None])
        apart = decide(Game(Web.tied(list("abcd"), [("a", "b"), ("b", "c")]), 2))
        self.assertIn((0, ((0, 3),), (2,)), apart)
        self.assertNotIn((0, ((0, 0),), (3,)), apart)
        self.assertEqual((apart.first, apart.rounds), ((1, 3), 1))

    def test_all_kinds(self):
        kinds = set()
        for game in small_games(91, 130):
            try:
                paper = decide(game, most=900)
            except TooMany:
                continue
            self.check(game, paper)
            kinds.add((type(paper), game.travel, game.pace, game.late))
        self.assertGreater(len(kinds), 20)

    def check(self, game, paper):
        moves, found = oracle.all_ranks(game)
        posts = oracle.all_posts(game)
        lengths = {post: oracle.longest(game, found, post) for post in posts}
        sure = [(length, post) for post, length in lengths.items() if length is not None]
        self.assertIsInstance(paper, Ranks if sure else Lot)
        if not sure:
            self.assertEqual({oracle.state_of(game, s) for s in paper}, {s for s in moves if s not in found})
            self.assertEqual(paper, Lot(game, paper.rows()))
            return
        self.assertEqual((paper.rounds, paper.first), min(sure))
        self.assertEqual({oracle.state_of(game, s) for s in paper}, set(found))
        self.assertEqual(paper, Ranks(game, paper.first, paper.rows()))
        for standing, rank, post in paper.rows():
            state = oracle.state_of(game, standing)
            good = [
                sent for sent, others in moves[state].items()
                if all(other in found and found[other] < found[state] for other in others)
            ]
            self.assertEqual((rank, post), (found[state], min(good)))

    def test_doors(self):
        # The passage to the third place is open at the second beat only.
        web = web_of(3, 2, {(0, 0, 1), (0, 1, 0), (1, 0, 1), (1, 1, 0), (1, 1, 2), (1, 2, 1)})
        paper = decide(Game(web, 1))
        self.assertEqual((paper.first, paper.rounds), ((0,), 2))
        self.assertEqual(paper.rank((0, ((1,),), (2,))), 2)
        self.assertEqual(paper.rank((1, ((1,),), (2,))), 1)

    def test_most(self):
        game = Game(ring(4), 1)
        self.assertEqual(len(decide(game, most=36)), 4)
        self.fails(TooMany(35), decide, game, most=35)
        self.fails(TooMany(1), decide, game, most=1)
        self.fails(TooMany(6000), decide, Game(full(8), 2))
        self.assertEqual(decide(Game(full(8), 2), most=20000).first, (0, 0))
        for most in (0, -1, 20001):
            self.fails(BadNumber(most), decide, Game(full(8), 4), most=most)


class RankFrom(Case):
    def test_like_the_table(self):
        for game in small_games(92, 40):
            try:
                table = Table(game, most=400)
            except TooMany:
                continue
            for standing in table:
                self.assertEqual(rank_from(game, standing), table.rank(standing))

    def test_a_standing_that_does_not_come_up(self):
        game = Game(line(4), 1, late=None)
        standing = (0, ((0,),), (1, 3))
        self.assertNotIn(standing, Table(game))
        self.assertTrue(is_standing(game, standing))
        moves = oracle.moves_from(game, [oracle.state_of(game, standing)])
        self.assertEqual(rank_from(game, standing), oracle.ranks(moves)[oracle.state_of(game, standing)])
        self.assertIsNone(rank_from(Game(ring(4), 1, late=None), (0, ((0,),), (2,))))
        self.assertEqual(rank_from(Game(ring(4), 1, late=None), (0, ((0,),), (1,))), 1)

    def test_most_counts_what_comes_up_after_it(self):
        game = Game(oneway(4), 1)
        standing = at(0, 2)
        seen, ahead = set(), [standing]
        while ahead:
            one = ahead.pop()
            if one not in seen:
                seen.add(one)
                ahead.extend(other for post in game.sends(one[0], one[1][-1]) for other in answers(game, one, post))
        moves = 2 * len(seen)
        self.assertIsNone(rank_from(game, standing, most=moves))
        self.fails(TooMany(moves - 1), rank_from, game, standing, most=moves - 1)
        # From here the play is over in this round, so there are only the two moves of this standing and what follows.
        still = Game(Web.tied(list("abc"), [("a", "b")]), 1)
        self.assertEqual(rank_from(still, at(0, 1), most=4), 1)
        self.assertIsNone(rank_from(still, at(0, 2), most=4))
        self.fails(TooMany(3), rank_from, still, at(0, 2), most=3)

    def test_wrong(self):
        game = Game(line(3), 1)
        self.fails(UnknownStanding(at(1, 1)), rank_from, game, at(1, 1), most=0)
        self.fails(UnknownStanding((1, ((0,),), (1,))), rank_from, game, (1, ((0,),), (1,)))
        for most in (0, 20001, -3):
            self.fails(BadNumber(most), rank_from, game, at(0, 1), most=most)
        self.fails(TooMany(1), rank_from, game, at(0, 2), most=1)


if __name__ == "__main__":
    unittest.main()
