"""Points [19] to [22]: what the seekers know."""

import random
import unittest
from itertools import product

import oracle
from helpers import Case, full, line, many_webs, oneway, ring, web_of
from tagwebs.errors import BadNumber, BadPost, CannotSend, TooMany, UnknownStanding
from tagwebs.games import Game
from tagwebs.standings import answers, first_standings, is_standing, now_places, standings
from tagwebs.webs import Web

LATES = (0, 1, 2, 3, None)


def small_games(seed, number, most_places=4):
    """Games of all kinds, small enough to be played out."""
    chance = random.Random(seed)
    games = []
    for web in many_webs(seed, number, most_places, 3):
        travel = chance.choice(["walk", "fly"])
        late = chance.choice(LATES)
        games.append(Game(web, 1 + chance.randrange(2), travel=travel, pace=chance.choice(["step", "swift"]), late=late))
    return games


def is_one(game, standing):
    """Whether the words of point [20] hold for a tuple of the right shape."""
    beat, trail, places = standing
    posts = oracle.all_posts(game)
    if not 0 <= beat < game.web.beats or not trail or any(post not in posts for post in trail):
        return False
    for at in range(len(trail) - 1):
        if not oracle.can_go(game, beat - len(trail) + 1 + at, trail[at], trail[at + 1]):
            return False
    free = [place for place in range(len(game.web)) if place not in trail[0]]
    fits = bool(places) and list(places) == sorted(set(places)) and set(places) <= set(free)
    if game.late is None:
        fits = fits and len(trail) == 1
    elif len(trail) == game.late + 1:
        fits = fits and len(places) == 1
    else:
        fits = len(trail) < game.late + 1 and list(places) == free and (beat - len(trail) + 1) % game.web.beats == 0
    return fits and bool(oracle.state_of(game, standing)[2])


class Examples(Case):
    def test_example(self):
        game = Game(Web.tied(["a", "b", "c"], [("a", "b"), ("b", "c")]), 1, late=1)
        first = first_standings(game, (1,))
        self.assertEqual([first, answers(game, first[0], (0,))], [
            [(0, ((1,),), (0, 2))], [(0, ((1,), (0,)), (2,))]])

    def test_first_standings(self):
        web = line(3)
        self.assertEqual(self.keeps(first_standings, Game(web, 1), (1,)), [(0, ((1,),), (0,)), (0, ((1,),), (2,))])
        for late in (1, 2, 3, None):
            self.assertEqual(self.keeps(first_standings, Game(web, 1, late=late), (1,)), [(0, ((1,),), (0, 2))])
        fly = Game(web, 3, travel="fly", late=None)
        self.assertEqual(first_standings(fly, ()), [(0, ((),), (0, 1, 2))])
        for late in LATES:
            self.assertEqual(first_standings(fly.changed(late=late), (0, 1, 2)), [])
            self.assertEqual(first_standings(Game(line(2), 2, late=late), (0, 1)), [])
        for post in [(3,), (), (0, 1), (-1,)]:
            self.fails(BadPost(post), first_standings, Game(web, 1), post)

    def test_told_at_once(self):
        game = Game(line(4, 2), 1)
        self.assertEqual(self.keeps(answers, game, (1, ((0,),), (2,)), (1,)), [(0, ((1,),), (2,)), (0, ((1,),), (3,))])
        self.assertEqual(answers(game, (0, ((0,),), (1,)), (1,)), [])

    def test_told_one_round_late(self):
        game = Game(line(4), 1, late=1)
        standing = (0, ((0,), (1,)), (3,))
        self.assertEqual(now_places(game, standing), (2, 3))
        self.assertEqual(answers(game, standing, (2,)), [(0, ((1,), (2,)), (3,))])
        self.assertEqual(answers(game, standing, (1,)), [(0, ((1,), (1,)), (2,)), (0, ((1,), (1,)), (3,))])

    def test_before_the_first_is_told(self):
        game = Game(line(4, 2), 1, late=3)
        trail = [first_standings(game, (0,))[0]]
        for post in ((1,), (1,), (1,)):
            found = answers(game, trail[-1], post)
            trail.append(found[0])
        self.assertEqual(trail[:3], [
            (0, ((0,),), (1, 2, 3)), (1, ((0,), (1,)), (1, 2, 3)), (0, ((0,), (1,), (1,)), (1, 2, 3))])
        self.assertEqual(found, [(1, ((0,), (1,), (1,), (1,)), (place,)) for place in (2, 3)])
        self.assertEqual([now_places(game, standing) for standing in trail], [(1, 2, 3), (2, 3), (2, 3), (2, 3)])
        self.assertEqual(answers(game, found[1], (2,)), [(0, ((1,), (1,), (1,), (2,)), (place,)) for place in (2, 3)])

    def test_never_told(self):
        game = Game(line(4), 1, late=None)
        self.assertEqual(answers(game, (0, ((1,),), (0, 3)), (0,)), [(0, ((0,),), (2, 3))])
        self.assertEqual(answers(game, (0, ((1,),), (0,)), (0,)), [])

    def test_the_rounds_of_a_trail_have_their_own_beats(self):
        web = web_of(3, 2, {(0, 0, 1), (1, 1, 2)})
        game = Game(web, 1, late=1)
        self.assertTrue(is_standing(game, (1, ((0,), (1,)), (2,))))
        self.assertFalse(is_standing(game, (0, ((0,), (1,)), (2,))))
        self.assertEqual([now_places(game, (beat, ((0,), (0,)), (1,))) for beat in (0, 1)], [(1, 2), (1,)])


class Form(Case):
    def test_every_small_tuple(self):
        webs = [line(2), oneway(3), web_of(2, 2, {(0, 0, 1), (1, 1, 0)}), web_of(3, 2, {(0, 0, 1), (1, 1, 2), (0, 2, 0)})]
        right = 0
        for web in webs:
            count = len(web)
            tuples = [row for many in range(count) for row in product(range(-1, count + 1), repeat=many)]
            for travel in ("walk", "fly"):
                for late in (0, 1, None):
                    game = Game(web, 1, travel=travel, late=late)
                    posts = [(p,) for p in range(count)] + [(), (count,), (-1,), (0, 0)]
                    trails = [trail for many in range(4) for trail in product(posts[: 5 if many > 1 else 9], repeat=many)]
                    for beat, trail, places in product(range(-1, web.beats + 1), trails, tuples):
                        wanted = is_one(game, (beat, trail, places))
                        right += wanted
                        self.assertIs(is_standing(game, (beat, trail, places)), wanted, (beat, trail, places))
        self.assertGreater(right, 100)

    def test_late_trails(self):
        web = web_of(2, 2, {(0, 0, 1), (0, 1, 0), (1, 1, 0)})
        for late in (1, 2, 3):
            game = Game(web, 1, late=late)
            found = 0
            for many in range(1, late + 3):
                for trail in product([(0,), (1,)], repeat=many):
                    for beat, places in product((0, 1), [(), (0,), (1,), (0, 1)]):
                        wanted = is_one(game, (beat, trail, places))
                        found += wanted
                        self.assertIs(is_standing(game, (beat, trail, places)), wanted, (beat, trail, places))
            self.assertGreater(found, 2)

    def test_caught_for_sure_is_no_standing(self):
        game = Game(line(2), 1, late=1)
        self.assertFalse(is_standing(game, (0, ((0,), (1,)), (1,))))
        self.assertTrue(is_standing(game, (0, ((0,), (0,)), (1,))))

    def test_wrong_standings(self):
        game = Game(line(3, 2), 1)
        wrong = [(2, ((0,),), (1,)), (-1, ((0,),), (1,)), (0, (), (1,)), (0, ((3,),), (1,)), (0, ((0,),), (0,)),
                 (0, ((0,),), ()), (0, ((0,),), (1, 2)), (0, ((0,), (0,)), (1,)), (0, ((0,),), (3,)), (0, ((0,),), (-1,))]
        for standing in wrong:
            self.fails(UnknownStanding(standing), now_places, game, standing)
            self.fails(UnknownStanding(standing), answers, game, standing, (7,))
        right = (0, ((0,),), (1,))
        for post in [(2,), (7,), (), (0, 0)]:
            self.fails(CannotSend(post), answers, game, right, post)
        self.assertEqual(now_places(game, right), (1,))
        fly = Game(line(3), 2, travel="fly", late=None)
        for post in [(2, 2), (0, 1, 2), (3,), (1, 0)]:
            self.fails(CannotSend(post), answers, fly, (0, ((),), (1,)), post)


class PlayedOut(Case):
    def test_answers_and_now_places(self):
        for game in small_games(61, 60):
            moves = oracle.moves_from(game, [s for post in oracle.all_posts(game) for s in oracle.starts(game, post)])
            if sum(len(found) for found in moves.values()) > 700:
                continue
            self.check(game, moves)

    def check(self, game, moves):
        seen = set()
        ahead = []
        for post in oracle.all_posts(game):
            first = self.keeps(first_standings, game, post)
            self.assertEqual(first, sorted(first))
            self.assertEqual([oracle.state_of(game, s) for s in first], oracle.starts(game, post))
            ahead.extend(first)
        while ahead:
            standing = ahead.pop()
            if standing in seen:
                continue
            seen.add(standing)
            state = oracle.state_of(game, standing)
            self.assertTrue(is_standing(game, standing))
            self.assertEqual(now_places(game, standing), tuple(sorted({track[-1] for track in state[2]})))
            for post, wanted in moves[state].items():
                found = answers(game, standing, post)
                self.assertEqual(found, sorted(found))
                self.assertEqual([oracle.state_of(game, other) for other in found], wanted)
                ahead.extend(found)
        self.assertEqual(self.keeps(standings, game), sorted(seen))


class ComesUp(Case):
    def test_all_of_a_line(self):
        found = standings(Game(line(3), 1))
        self.assertEqual(found, [(0, ((c,),), (r,)) for c in range(3) for r in range(3) if c != r])
        self.assertEqual(standings(Game(Web(["a"], []), 1)), [])

    def test_most(self):
        for game in [Game(line(3), 1), Game(ring(4, 2), 1, late=1), Game(line(3), 1, travel="fly", late=2)]:
            found = standings(game, most=20000)
            moves = sum(len(game.sends(standing[0], standing[1][-1])) for standing in found)
            self.assertEqual(standings(game, most=moves), found)
            self.fails(TooMany(moves - 1), standings, game, most=moves - 1)
            self.fails(TooMany(1), standings, game, most=1)
        self.assertEqual(standings(Game(Web(["a"], []), 1), most=1), [])
        # One standing for each of two posts, and from each of them one post: two moves.
        self.assertEqual(len(standings(Game(Web(["a", "b"], []), 1), most=2)), 2)
        self.fails(TooMany(1), standings, Game(Web(["a", "b"], []), 1), most=1)

    def test_the_most_that_is_meant_if_none_is_passed(self):
        game = Game(full(8), 2)
        self.fails(TooMany(6000), standings, game)
        self.assertEqual(len(standings(game, most=20000)), 8 * 7 + 28 * 6)

    def test_wrong_most(self):
        for most in (0, -1, 20001, 10 ** 9, -10 ** 9):
            self.fails(BadNumber(most), standings, Game(full(8), 4), most=most)


if __name__ == "__main__":
    unittest.main()
