"""Points [56] and [57]: plans for seekers who are told nothing, and the ways of running."""

import random
import unittest
from itertools import product

from helpers import Case, full, line, many_webs, oneway, ring, web_of
from tagwebs.deciding import decide
from tagwebs.errors import BadNumber, BadPost, CannotSend, NotUnseen, TooMany
from tagwebs.games import Game
from tagwebs.papers import Ranks
from tagwebs.unseen import possible_after, shortest_plan, tracks
from tagwebs.webs import Web
from test_standings import LATES
from test_threats import unseen_games

GAME = Game(Web.tied(["a", "b", "c"], [("a", "b"), ("b", "c")]), 1, late=None)
DOORS = web_of(3, 2, {(0, 0, 1), (0, 1, 0), (1, 1, 2), (1, 2, 1)})


def all_lists(game, length):
    """All lists of so many posts that the seekers can send in turn, in ascending order."""
    lists = [[post] for post in game.posts()]
    for at in range(length - 1):
        lists = [[*posts, sent] for posts in lists for sent in game.sends(at, posts[-1])]
    return lists


def some_list(chance, game, length):
    """A list of posts that the seekers can send in turn."""
    posts = [chance.choice(game.posts())]
    for at in range(length - 1):
        posts.append(chance.choice(game.sends(at, posts[-1])))
    return posts


def all_ways(game, posts):
    """All ways of running, by trying every list of places."""
    found = []
    for places in product(range(len(game.web)), repeat=len(posts)):
        fine = places[0] not in posts[0]
        for at in range(len(posts) - 1):
            fine = fine and places[at + 1] in game.runs(at, posts[at], posts[at + 1], places[at])
        if fine:
            found.append(list(places))
    return found


class ShortestPlan(Case):
    def test_example(self):
        self.assertEqual(
            [shortest_plan(GAME), possible_after(GAME, [(1,), (0,), (1,)]), list(tracks(GAME, [(1,), (0,)]))],
            [[(0,), (1,), (2,)], [(0, 2), (1, 2), (2,)], [[2, 1], [2, 2]]])

    def test_caught_at_once(self):
        self.assertEqual(shortest_plan(Game(Web(["a"], []), 2, late=None)), [(0, 0)])
        self.assertEqual(shortest_plan(Game(line(3), 3, travel="fly", late=None)), [(0, 1, 2)])
        self.assertEqual(shortest_plan(Game(line(3), 3, late=None)), [(0, 1, 2)])

    def test_none(self):
        for game in [Game(ring(4), 1, late=None), Game(full(4), 2, travel="fly", late=None), Game(line(3), 1, travel="fly", late=None)]:
            self.assertIsNone(shortest_plan(game))

    def test_several_shortest_lists(self):
        # From either end of the line, the other way would be as short; the least list counts.
        self.assertEqual(self.keeps(shortest_plan, Game(line(4), 1, pace="swift", late=None)), [(0,), (1,), (2,), (3,)])
        self.assertEqual(shortest_plan(Game(Web.tied(list("abc"), [("a", "b"), ("a", "c")]), 1, late=None)), [(1,), (0,), (2,)])

    def test_least_of_all_lists(self):
        found = 0
        for game in [*unseen_games(241, 40), *[Game(web, 2, late=None) for web in many_webs(242, 8, 3, 2)]]:
            try:
                paper = decide(game, most=900)
            except TooMany:
                continue
            plan = shortest_plan(game)
            self.assertIs(plan is None, not isinstance(paper, Ranks))
            if plan is None:
                continue
            self.assertEqual(len(plan), paper.rounds + 1)
            self.assertEqual(possible_after(game, plan)[-1], ())
            if len(game.posts()) ** len(plan) <= 20000:
                found += len(plan) > 1
                lists = [posts for posts in all_lists(game, len(plan)) if not possible_after(game, posts)[-1]]
                self.assertEqual(plan, min(lists))
            for shorter in all_lists(game, min(2, len(plan) - 1)) if len(plan) > 1 else []:
                self.assertNotEqual(possible_after(game, shorter)[-1], ())
        self.assertGreater(found, 8)

    def test_most(self):
        game = Game(ring(4), 1, late=None)
        paper = [most for most in range(1, 60) if self.enough(game, most)]
        self.assertEqual(paper, [most for most in range(1, 60) if self.enough(game, most, decide)])
        self.fails(TooMany(1), shortest_plan, GAME, most=1)
        self.fails(TooMany(6000), shortest_plan, Game(full(8), 8, travel="fly", pace="swift", late=None))

    def enough(self, game, most, call=shortest_plan):
        try:
            call(game, most=most)
        except TooMany:
            return False
        return True

    def test_wrong(self):
        for most in (0, -1, 20001):
            self.fails(BadNumber(most), shortest_plan, GAME, most=most)
            self.fails(NotUnseen(), shortest_plan, GAME.changed(late=0), most=most)
        for late in (1, 2, 3):
            self.fails(NotUnseen(), shortest_plan, GAME.changed(late=late))


class PossibleAfter(Case):
    def test_some(self):
        self.assertEqual(self.holds(possible_after, GAME, [(1,)]), [(0, 2)])
        # Once there is no place, there is none later.
        self.assertEqual(possible_after(GAME, [(0,), (1,), (2,), (1,), (0,)]), [(1, 2), (2,), (), (), ()])
        self.assertEqual(possible_after(Game(Web(["a"], []), 1), [(0,), (0,)]), [(), ()])
        fly = Game(line(3), 2, travel="fly", pace="swift")
        self.assertEqual(possible_after(fly, [(), (0, 1), (1, 2)]), [(0, 1, 2), (2,), ()])
        self.assertEqual(possible_after(fly, [(0, 1), (1,), (0,)]), [(2,), (2,), (1, 2)])

    def test_beats(self):
        game = Game(DOORS, 1)
        self.assertEqual(possible_after(game, [(2,), (2,), (1,)]), [(0, 1), (0, 1), (0,)])
        self.fails(CannotSend((1,)), possible_after, game, [(2,), (1,)])
        self.fails(CannotSend((0,)), possible_after, game, [(1,), (1,), (0,)])

    def test_all(self):
        chance = random.Random(243)
        for game in unseen_games(244, 50):
            game = game.changed(late=chance.choice(LATES))
            posts = some_list(chance, game, 1 + chance.randrange(6))
            wanted = [tuple(p for p in range(len(game.web)) if p not in posts[0])]
            for at in range(len(posts) - 1):
                wanted.append(game.spread(at, posts[at], posts[at + 1], wanted[-1]))
            self.assertEqual(self.keeps(possible_after, game, posts), wanted)

    def test_wrong(self):
        for call in (possible_after, lambda game, posts: list(tracks(game, posts))):
            for post in [(3,), (), (0, 1), (-1,)]:
                self.fails(BadPost(post), call, GAME, [post, (9,)])
                self.fails(CannotSend(post), call, GAME, [(0,), (1,), post, (9,)])
            self.fails(CannotSend((2,)), call, GAME, [(0,), (2,), (9,)])
            fly = Game(line(3), 1, travel="fly")
            self.fails(CannotSend((0, 1)), call, fly, [(0,), (2,), (), (0, 1), (9,)])
            self.fails(BadPost((1, 0)), call, fly, [(1, 0)])


class Tracks(Case):
    def test_some(self):
        self.assertEqual(list(tracks(GAME, [(1,)])), [[0], [2]])
        self.assertEqual(list(tracks(GAME, [(0,), (1,), (2,)])), [])
        self.assertEqual(list(tracks(Game(Web(["a"], []), 1), [(0,)])), [])
        self.assertEqual(list(tracks(Game(line(2), 1, travel="fly"), ((), ()))), [[0, 0], [0, 1], [1, 0], [1, 1]])

    def test_bit_by_bit_and_twice_at_once(self):
        posts = [(2,), (2,), (2,)]
        first = tracks(GAME, posts)
        one = next(first)
        second = tracks(GAME, posts)
        self.assertEqual([one, next(second), next(first), next(second)], [[0, 0, 0], [0, 0, 0], [0, 0, 1], [0, 0, 1]])
        self.assertEqual(list(first) + list(second), [[0, 1, 0], [0, 1, 1], [1, 0, 0], [1, 0, 1], [1, 1, 0], [1, 1, 1]] * 2)

    def test_changes_from_outside(self):
        posts = [(2,), (2,), (2,)]
        ways = tracks(GAME, posts)
        next(ways).clear()
        posts.clear()
        self.assertEqual(next(ways), [0, 0, 1])

    def test_long_lists_of_posts(self):
        # There are far too many ways to make all of them beforehand.
        game = Game(full(8), 1, travel="fly", pace="swift")
        ways = tracks(game, [(0,), (1,)] * 200)
        first = next(ways)
        self.assertEqual((len(first), first[:4], next(ways)[-3:]), (400, [1, 0, 1, 0], [0, 1, 2]))

    def test_ways_that_end_late(self):
        # Every way but one is caught in the last round, and only there.
        game = Game(Web.tied(list("abcdefgh"), [(u, v) for u in "abcdefg" for v in "abcdefg" if u < v]), 7, travel="fly")
        self.assertEqual(list(tracks(game, [*[()] * 30, (0, 1, 2, 3, 4, 5, 6)])), [[7] * 31])
        self.assertEqual(list(tracks(game.changed(seekers=8), [*[()] * 30, (0, 1, 2, 3, 4, 5, 6, 7)])), [])

    def test_it_raises_when_it_is_iterated(self):
        for posts in [[(9,)], [(0,), (2,)]]:
            ways = tracks(GAME, posts)
            with self.assertRaises((BadPost, CannotSend)):
                next(ways)

    def test_all(self):
        chance = random.Random(245)
        some = 0
        for game in unseen_games(246, 50):
            game = game.changed(late=chance.choice(LATES))
            posts = some_list(chance, game, 1 + chance.randrange(5))
            ways = all_ways(game, posts)
            some += len(ways) > 3
            self.assertEqual(list(tracks(game, posts)), ways)
            self.assertEqual(list(tracks(game, tuple(posts))), ways)
            ends = tuple(sorted({way[-1] for way in ways}))
            self.assertEqual(possible_after(game, posts)[-1], ends)
        self.assertGreater(some, 10)

    def test_a_one_way_ring(self):
        game = Game(oneway(4), 1)
        self.assertEqual(list(tracks(game, [(0,), (1,), (1,)])), [
            [2, 2, 2], [2, 2, 3], [2, 3, 0], [2, 3, 3], [3, 0, 0], [3, 3, 0], [3, 3, 3]])


if __name__ == "__main__":
    unittest.main()
