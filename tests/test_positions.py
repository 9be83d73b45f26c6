"""Points [69] and [70]: plans that fit a game, and positions."""

import random
import unittest

from helpers import Case, line, oneway, web_of
from playing import begun, go_on, some_fit_plan, some_games
from tagwebs.errors import UnfitPlan, UnknownPosition
from tagwebs.games import Game
from tagwebs.plans import Plan
from tagwebs.plantext import read_plan
from tagwebs.positions import check_plan, first_positions, next_positions

DOORS = web_of(3, 2, {(0, 0, 1), (0, 1, 0), (1, 1, 2), (1, 2, 1)})


class CheckPlan(Case):
    def test_fits(self):
        plan = read_plan("begin c a\nstate s\ntold a b : go b b then s\nnone : stay then s")
        self.assertIsNone(self.keeps(check_plan, Game(line(3), 2), plan))
        fly = read_plan("begin\nstate s\ntold c : go then s\nelse : go a c then s")
        self.assertIsNone(check_plan(Game(line(3), 2, travel="fly"), fly))
        # Names of states and the words none and else are no names of places.
        self.assertIsNone(check_plan(Game(line(3), 1), read_plan("begin a\nstate z\nnone : stay then z\nelse : go b then z")))

    def test_opening(self):
        for game, text in [
            (Game(line(3), 1), "begin"), (Game(line(3), 1), "begin a b"), (Game(line(3), 1), "begin d"),
            (Game(line(3), 2), "begin a"), (Game(line(3), 2), "begin a b c"), (Game(line(3), 2), "begin a x"),
            (Game(line(3), 2, travel="fly"), "begin a a"), (Game(line(3), 2, travel="fly"), "begin a b c"),
            (Game(line(3), 2, travel="fly"), "begin d"),
        ]:
            for rest in ("\nstate s", "\nstate s\ntold z : go z z z then s"):
                self.fails(UnfitPlan("opening", 0), check_plan, game, read_plan(text + rest))

    def test_states(self):
        walk = ["told d : stay then s", "told a d : stay then s", "told a : go then s", "told a : go a b then s", "none : go d then s",
                "else : go a a then s"]
        fly = ["told d : stay then s", "told a : go a a then s", "none : go a b c then s", "else : go x then s"]
        for game, rules in [(Game(line(3), 1), walk), (Game(line(3), 2, travel="fly"), fly)]:
            for rule in rules:
                self.fails(UnfitPlan("state", 0), check_plan, game, read_plan(f"begin a{' c' * (game.seekers - 1)}\nstate s\n{rule}"))
                text = f"begin a{' b' * (game.seekers - 1)}\nstate t\nelse : stay then s\nstate s\ntold a : stay then s\n{rule}\nstate u\n{rule}"
                self.fails(UnfitPlan("state", 1), check_plan, game, read_plan(text))

    def test_rules_that_never_fit_and_states_that_never_come(self):
        plan = read_plan("begin a\nstate s\nelse : stay then s\ntold z : stay then s\nstate t\nnone : go a b then t")
        self.fails(UnfitPlan("state", 0), check_plan, Game(line(3), 1), plan)
        self.fails(UnfitPlan("state", 1), check_plan, Game(line(3).renamed(["a", "b", "z"]), 1), plan)

    def test_all_functions_ask_this_first(self):
        game = Game(line(3), 1)
        for text, error in [("begin z\nstate s", UnfitPlan("opening", 0)), ("begin a\nstate s\nnone : go z then s", UnfitPlan("state", 0))]:
            self.fails(error, first_positions, game, read_plan(text))
            self.fails(error, next_positions, game, read_plan(text), (9, (), (), "z"))


class FirstPositions(Case):
    def test_some(self):
        plan = read_plan("begin b a\nstate t\nstate s")
        for late in (0, 1, 3, None):
            game = Game(line(4), 2, late=late)
            self.assertEqual(self.keeps(first_positions, game, plan), [(0, (0, 1), (2,), "t"), (0, (0, 1), (3,), "t")])
        self.assertEqual(first_positions(Game(line(2), 2), plan), [])
        self.assertEqual(first_positions(Game(line(2), 3, travel="fly"), Plan([], [("s", [])])), [(0, (), (0,), "s"), (0, (), (1,), "s")])


class NextPositions(Case):
    def test_what_is_told(self):
        plan = read_plan("begin b\nstate s\ntold c : go b then t\nnone : go a then u\nstate t\nstate u\nelse : go a then s")
        web = line(4)
        for late, track, wanted in [
            (0, (2,), ((1,), [(2,), (3,)], "t")), (0, (3,), ((1,), [(2,), (3,)], "s")),
            (1, (2,), ((0,), [(2, 1), (2, 2), (2, 3)], "u")), (1, (2, 2), ((1,), [(2, 2), (2, 3)], "t")),
            (1, (3, 2), ((1,), [(2, 2), (2, 3)], "s")), (2, (2, 3), ((0,), [(2, 3, 2), (2, 3, 3)], "u")),
            (2, (2, 3, 3), ((1,), [(3, 3, 2), (3, 3, 3)], "t")), (None, (2,), ((0,), [(1,), (2,), (3,)], "u")),
        ]:
            sent, tracks, state = wanted
            game = Game(web, 1, late=late)
            self.assertEqual(
                self.keeps(next_positions, game, plan, (0, (1,), track, "s")), [(0, sent, longer, state) for longer in tracks])

    def test_an_action_that_cannot_be_gone_to(self):
        plan = read_plan("begin a\nstate s\nelse : go c then t\nstate t\nelse : stay then s")
        game = Game(line(4), 1)
        self.assertEqual(next_positions(game, plan, (0, (0,), (3,), "s")), [(0, (0,), (2,), "t"), (0, (0,), (3,), "t")])
        self.assertEqual(next_positions(game, plan, (0, (1,), (3,), "s")), [(0, (2,), (3,), "t")])
        self.assertEqual(next_positions(game, plan, (0, (2,), (3,), "t")), [(0, (2,), (3,), "s")])
        # Those who fly can go everywhere.
        fly = Game(line(4), 1, travel="fly")
        self.assertEqual(next_positions(fly, plan, (0, (0,), (3,), "s")), [(0, (2,), (3,), "t")])

    def test_doors(self):
        plan = read_plan("begin b\nstate s\nelse : go c then s")
        game = Game(DOORS, 1)
        self.assertEqual(next_positions(game, plan, (0, (1,), (0,), "s")), [(1, (1,), (0,), "s")])
        self.assertEqual(next_positions(game, plan, (1, (1,), (0,), "s")), [(0, (2,), (0,), "s")])
        self.assertEqual(next_positions(game, plan, (1, (1,), (2,), "s")), [])

    def test_caught(self):
        plan = read_plan("begin b\nstate s\ntold a : go a then s")
        self.assertEqual(self.keeps(next_positions, Game(line(2), 1), plan, (0, (1,), (0,), "s")), [])

    def test_a_position_need_not_come_up(self):
        plan = read_plan("begin a\nstate s\nstate t\ntold b : go a b then s")
        game = Game(oneway(4), 2, late=3)
        plan = read_plan("begin a a\nstate s\nstate t\nnone : go a b then s")
        # The track cannot have been run, and it is shorter than it can be at such a beat.
        self.assertEqual(next_positions(game, plan, (0, (0, 0), (0, 2), "t")), [(0, (0, 1), (0, 2, 2), "s"), (0, (0, 1), (0, 2, 3), "s")])
        late = Game(DOORS, 1, late=2)
        self.assertEqual(next_positions(late, Plan(["a"], [("s", [])]), (1, (0,), (1,), "s")), [(0, (0,), (1, 1), "s"), (0, (0,), (1, 2), "s")])

    def test_all(self):
        chance = random.Random(401)
        seen = [0, 0, 0]
        for game in some_games(chance, 400, 402):
            plan = some_fit_plan(chance, game)
            ahead = begun(game, plan)
            self.assertEqual(first_positions(game, plan), ahead)
            for _ in range(20):
                if ahead:
                    position = chance.choice(ahead)
                    ahead = go_on(game, plan, position)
                    seen = [seen[0] + 1, seen[1] + (not ahead), seen[2] + (len(ahead) > 1)]
                    self.assertEqual(next_positions(game, plan, position), ahead)
        self.assertGreater(min(seen), 30)

    def test_unknown_positions(self):
        plan = read_plan("begin a\nstate s\nstate t")
        for late, tracks, wrong in [
            (0, [(1,)], [(), (1, 1), (0,), (3,), (-1,)]), (2, [(1,), (0, 1), (0, 0, 1)], [(), (1, 1, 1, 1), (1, 0), (3, 1), (1, 3), (-1, 1)]),
            (None, [(2,)], [(), (1, 1), (0,), (1, 2)]),
        ]:
            game = Game(line(3, 2), 1, late=late)
            for track in tracks:
                for beat in (0, 1):
                    self.assertTrue(next_positions(game, plan, (beat, (0,), track, "t")))
                for position in [(-1, (0,), track, "s"), (2, (0,), track, "s"), (0, (3,), track, "s"), (0, (), track, "s"),
                                 (0, (0, 0), track, "s"), (0, (-1,), track, "s"), (0, (0,), track, "u"), (0, (0,), track, ""),
                                 (0, (track[-1],), track, "s")]:
                    self.fails(UnknownPosition(position), next_positions, game, plan, position)
            for track in wrong:
                self.fails(UnknownPosition((0, (0,), track, "s")), next_positions, game, plan, (0, (0,), track, "s"))
        walk = Game(line(3), 1)
        for position in [(), (0,), (0, (0,), (1,)), (0, (0,), (1,), "s", 0), ((0,), (0,), (1,), "s"), (0, 0, (1,), "s"), (0, (0,), 1, "s")]:
            self.fails(UnknownPosition(position), next_positions, walk, plan, position)
        fly = Game(line(3), 2, travel="fly")
        for post in [(1, 0), (0, 0), (0, 1, 2)]:
            position = (0, post, (2,), "s")
            self.fails(UnknownPosition(position), next_positions, fly, plan, position)
        self.assertEqual(len(next_positions(fly, plan, (0, (), (2,), "s"))), 2)


if __name__ == "__main__":
    unittest.main()
