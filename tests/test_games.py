"""Points [15] to [18]: games, posts, sends, runs and spread."""

import random
import unittest

import oracle
from helpers import Case, full, line, many_webs, oneway, ring, web_of
from tagwebs.errors import BadGame, BadPost, CannotSend, NotFree, UnknownName, UnknownPlace
from tagwebs.games import Game
from tagwebs.webs import Web


def parts(game):
    return (game.web, game.seekers, game.travel, game.pace, game.late)


class Making(Case):
    def test_defaults_and_attributes(self):
        web = line(3)
        self.assertEqual(parts(Game(web, 2)), (web, 2, "walk", "step", 0))
        self.assertEqual(parts(Game(web, 8, travel="fly", pace="swift", late=None)), (web, 8, "fly", "swift", None))

    def test_bounds(self):
        for seekers in (1, 4):
            self.assertEqual(Game(line(3), seekers).seekers, seekers)
        for seekers in (1, 5, 8):
            self.assertEqual(Game(line(3), seekers, travel="fly").seekers, seekers)
        for late in (0, 1, 2, 3, None):
            self.assertEqual(Game(line(3), 1, late=late).late, late)

    def test_wrong(self):
        web = line(3)
        for travel in ("", "Walk", "flying", "swift"):
            self.fails(BadGame("travel"), Game, web, 0, travel=travel, pace="", late=4)
        for seekers in (0, 5, -1, 8, 10 ** 9):
            self.fails(BadGame("seekers"), Game, web, seekers, pace="", late=4)
        for seekers in (0, 9, -1):
            self.fails(BadGame("seekers"), Game, web, seekers, travel="fly", pace="", late=4)
        for pace in ("", "fast", "walk", "Step"):
            self.fails(BadGame("pace"), Game, web, 1, pace=pace, late=4)
        for late in (-1, 4, 10 ** 9):
            self.fails(BadGame("late"), Game, web, 1, late=late)

    def test_equal(self):
        game = Game(line(3), 2, travel="fly", pace="swift", late=1)
        self.assertTrue(game == Game(line(3), 2, travel="fly", pace="swift", late=1))
        others = [{"web": ring(3)}, {"seekers": 3}, {"travel": "walk"}, {"pace": "step"}, {"late": 0}, {"late": None}]
        for other in others:
            self.assertFalse(game == game.changed(**other), other)
        self.assertFalse(game == 3)

    def test_changed(self):
        game = Game(line(3), 2)
        self.assertEqual(game.changed(), game)
        self.assertEqual(parts(game.changed(late=None, web=ring(4))), (ring(4), 2, "walk", "step", None))
        self.assertEqual(parts(game.changed(seekers=8, travel="fly", pace="swift")), (line(3), 8, "fly", "swift", 0))
        self.assertEqual(parts(game), (line(3), 2, "walk", "step", 0))

    def test_changed_wrong(self):
        game = Game(line(3), 2)
        self.fails(UnknownName("speed"), game.changed, seekers=9, speed=1, beats=2)
        self.fails(UnknownName("beats"), game.changed, beats=2, seekers=9, speed=1)
        self.fails(BadGame("seekers"), game.changed, seekers=5, late=9)
        self.fails(BadGame("travel"), game.changed, late=9, travel="run")
        self.fails(BadGame("seekers"), game.changed(travel="fly", seekers=8).changed, travel="walk")
        self.assertEqual(parts(game), (line(3), 2, "walk", "step", 0))


class Posts(Case):
    def test_example(self):
        web = Web.tied(["a", "b", "c"], [("a", "b"), ("b", "c")])
        walk = Game(web, 1)
        fly = Game(web, 1, travel="fly", pace="swift")
        self.assertEqual(
            [walk.posts(), walk.sends(0, (0,)), walk.runs(0, (0,), (1,), 2), fly.posts(), fly.runs(0, (0,), (1,), 2)],
            [[(0,), (1,), (2,)], [(0,), (1,)], (2,), [(), (0,), (1,), (2,)], (0, 2)])

    def test_posts(self):
        self.assertEqual(self.keeps(Game(line(2), 3).posts), [(0, 0, 0), (0, 0, 1), (0, 1, 1), (1, 1, 1)])
        self.assertEqual(self.keeps(Game(line(3), 2, travel="fly").posts), [
            (), (0,), (0, 1), (0, 2), (1,), (1, 2), (2,)])
        self.assertEqual(Game(line(2), 8, travel="fly").posts(), [(), (0,), (0, 1), (1,)])
        self.assertEqual((len(Game(full(8), 4).posts()), len(Game(full(8), 8, travel="fly").posts())), (330, 256))
        for count in range(1, 9):
            for game in [Game(line(count), 1 + count % 4), Game(line(count), count, travel="fly")]:
                self.assertEqual(game.posts(), oracle.all_posts(game))

    def test_is_post(self):
        walk = Game(line(3), 2)
        fly = Game(line(3), 2, travel="fly")
        for post, walks, flies in [
            ((0, 0), True, False), ((0, 2), True, True), ((2, 0), False, False), ((0,), False, True), ((), False, True),
            ((0, 1, 2), False, False), ((0, 3), False, False), ((-1, 0), False, False), ((2, 2), True, False),
            ((0, 10 ** 9), False, False), ((-1,), False, False), ((3,), False, False),
        ]:
            self.assertEqual((walk.is_post(post), fly.is_post(post)), (walks, flies), post)


class Sends(Case):
    def test_directions_and_beats(self):
        web = web_of(3, 2, {(0, 0, 1), (1, 1, 2), (1, 0, 2)})
        game = Game(web, 2)
        self.assertEqual(self.keeps(game.sends, 0, (0, 0)), [(0, 0), (0, 1), (1, 1)])
        self.assertEqual(game.sends(1, (0, 1)), [(0, 1), (0, 2), (1, 2), (2, 2)])
        self.assertEqual(game.sends(-1, (0, 1)), game.sends(1, (0, 1)))
        self.assertEqual(game.sends(10 ** 9, (0, 1)), game.sends(0, (0, 1)))
        self.assertEqual(game.sends(0, (2, 2)), [(2, 2)])

    def test_those_who_fly_go_to_every_post(self):
        game = Game(web_of(3, 2, {(0, 0, 1)}), 2, travel="fly")
        for post in game.posts():
            self.assertEqual(self.keeps(game.sends, 1, post), game.posts())

    def test_all(self):
        for web in many_webs(51, 30, 4, 3):
            for seekers in (1, 2, 3, 4):
                game = Game(web, seekers)
                for post in game.posts():
                    for beat in range(-1, web.beats):
                        wanted = [sent for sent in game.posts() if oracle.can_go(game, beat, post, sent)]
                        self.assertEqual(game.sends(beat, post), wanted)

    def test_wrong(self):
        for post in [(0,), (), (1, 0), (0, 3), (0, 0, 0)]:
            self.fails(BadPost(post), Game(line(3), 2).sends, 0, post)
        for post in [(0, 0), (1, 0), (3,), (0, 1, 2)]:
            self.fails(BadPost(post), Game(line(3), 2, travel="fly").sends, 0, post)


class Runs(Case):
    def test_walk(self):
        web = line(5)
        step = Game(web, 1)
        swift = Game(web, 1, pace="swift")
        self.assertEqual([step.runs(0, (0,), (1,), 1), swift.runs(0, (0,), (1,), 1)], [(), ()])
        self.assertEqual([step.runs(0, (0,), (1,), 2), swift.runs(0, (0,), (1,), 2)], [(2, 3), (2, 3, 4)])
        self.assertEqual([step.runs(0, (0,), (0,), 3), swift.runs(0, (0,), (0,), 3)], [(2, 3, 4), (1, 2, 3, 4)])

    def test_fly(self):
        web = line(5)
        step = Game(web, 2, travel="fly")
        swift = Game(web, 2, travel="fly", pace="swift")
        self.assertEqual([step.runs(0, (1, 2), (2, 4), 3), swift.runs(0, (1, 2), (2, 4), 3)], [(3,), (3,)])
        self.assertEqual([step.runs(0, (1,), (3,), 2), swift.runs(0, (1,), (3,), 2)], [(1, 2), (0, 1, 2, 4)])
        self.assertEqual([step.runs(0, (), (2,), 2), swift.runs(0, (), (2,), 2)], [(1, 3), (0, 1, 3, 4)])
        self.assertEqual(swift.runs(0, (), (), 2), (0, 1, 2, 3, 4))
        self.assertEqual(Game(line(2), 8, travel="fly").runs(0, (), (0, 1), 0), ())

    def test_the_beat_of_the_round(self):
        game = Game(web_of(3, 2, {(0, 1, 2), (1, 2, 1)}), 1)
        self.assertEqual([game.runs(beat, (0,), (0,), 1) for beat in (0, 1, 2, -1)], [(1, 2), (1,), (1, 2), (1,)])
        game = Game(oneway(4), 1, pace="swift")
        self.assertEqual(game.runs(0, (3,), (3,), 1), (1, 2))

    def test_all(self):
        chance = random.Random(52)
        for web in many_webs(52, 60, 5, 3):
            for travel in ("walk", "fly"):
                for pace in ("step", "swift"):
                    game = Game(web, 1 + chance.randrange(3), travel=travel, pace=pace)
                    for _ in range(15):
                        self.check(game, chance)

    def check(self, game, chance):
        beat = chance.randrange(-5, 6)
        post = chance.choice(game.posts())
        sent = chance.choice(game.sends(beat, post))
        free = [place for place in range(len(game.web)) if place not in post]
        for place in free:
            wanted = tuple(sorted(oracle.ends(game, beat, post, sent, place)))
            self.assertEqual(game.runs(beat, post, sent, place), wanted)
        places = [place for place in free * 2 if chance.randrange(2)]
        wanted = {end for place in places for end in oracle.ends(game, beat, post, sent, place)}
        self.assertEqual(self.holds(lambda held: game.spread(beat, post, sent, held), places), tuple(sorted(wanted)))

    def test_wrong(self):
        game = Game(line(4), 1)
        for call, last in [(game.runs, lambda place: place), (game.spread, lambda place: [2, place, -7])]:
            self.fails(BadPost((4,)), call, 0, (4,), (9,), last(9))
            self.fails(BadPost(()), call, 0, (), (), last(0))
            self.fails(CannotSend((2,)), call, 0, (0,), (2,), last(9))
            self.fails(CannotSend((9,)), call, 0, (0,), (9,), last(9))
            self.fails(CannotSend((0, 0)), call, 0, (0,), (0, 0), last(9))
            self.fails(UnknownPlace(4), call, 0, (0,), (1,), last(4))
            self.fails(UnknownPlace(-1), call, 0, (0,), (1,), last(-1))
            self.fails(NotFree(0), call, 0, (0,), (1,), last(0))
        fly = Game(line(4), 2, travel="fly")
        self.fails(CannotSend((1, 1)), fly.runs, 0, (0,), (1, 1), 0)
        self.fails(CannotSend((0, 1, 2)), fly.spread, 0, (0,), (0, 1, 2), [])
        self.fails(NotFree(3), fly.spread, 0, (1, 3), (), [0, 3, 4])
        self.assertEqual(fly.spread(0, (1, 3), (), []), ())


if __name__ == "__main__":
    unittest.main()
