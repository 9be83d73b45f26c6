"""Point [82]: deeds that follow a paper or a plan."""

import random
import unittest

from helpers import Case, full, line, ring, web_of
from playing import LATES, next_deeds, some_fit_plan, some_games, tells
from tagwebs.compiling import compiled
from tagwebs.deciding import decide
from tagwebs.desks import Desk
from tagwebs.errors import NotNow, NotSeen, OtherGame, TooMany, UnfitPlan, UnknownName, UnknownStanding
from tagwebs.following import evade, obey, seek
from tagwebs.games import Game
from tagwebs.judging import Escape, Sure, judge
from tagwebs.papers import Lot, Ranks
from tagwebs.plans import Plan
from tagwebs.plantext import read_plan
from tagwebs.webs import Web
from test_desks import after, desks_in_all_turns

LINE = Game(line(3), 1)
DOORS = web_of(3, 2, {(0, 0, 1), (0, 1, 0), (1, 1, 2), (1, 2, 1)})


def runner_deed(chance, desk):
    """Any deed of the runner."""
    if desk.turn == "hide":
        desk.hide(chance.choice(desk.possible))
    elif desk.turn == "run":
        desk.run(chance.choice(desk.game.runs(desk.beat, desk.here, desk.sent, desk.runner)))


def all_plays(game, paper, do):
    """The number of rounds of every play in which the seekers do as told, whatever the runner does."""
    ends = []
    ahead = [[]]
    while ahead:
        choices = ahead.pop()
        desk, state, at = Desk(game, memory=0), None, 0
        while not desk.caught:
            if desk.turn in ("begin", "send"):
                state = do(desk, paper, state)
                continue
            ways = desk.possible if desk.turn == "hide" else game.runs(desk.beat, desk.here, desk.sent, desk.runner)
            if at == len(choices):
                ahead += [[*choices, place] for place in ways[1:]]
                choices = [*choices, ways[0]]
            (desk.hide if desk.turn == "hide" else desk.run)(choices[at])
            at += 1
        ends.append(desk.played)
    return ends


class Seek(Case):
    def test_a_game(self):
        game = Game(line(5), 1)
        ranks = decide(game)
        desk = Desk(game)
        self.assertEqual(seek(desk, ranks), (2,))
        self.assertEqual((desk.turn, desk.here), ("hide", (2,)))
        desk.hide(4)
        self.assertEqual(seek(desk, ranks), ranks.send((0, ((2,),), (4,))))
        self.assertEqual((desk.turn, desk.sent, desk.log[-1]), ("run", (3,), "send d"))
        desk.run(4)
        self.assertEqual(seek(desk, ranks), (4,))
        self.assertTrue(desk.caught)

    def test_at_once(self):
        game = Game(line(2), 2, late=None)
        desk = Desk(game)
        self.assertEqual(seek(desk, decide(game)), (0, 1))
        self.assertTrue(desk.caught)

    def test_every_way_of_running(self):
        for game in [Game(line(4), 1), Game(ring(4), 2, late=1), Game(line(3), 2, travel="fly", pace="swift"), Game(DOORS, 1),
                     Game(line(4), 1, pace="swift", late=None), Game(line(4), 2, travel="fly", pace="swift", late=1), Game(line(3), 1, late=3)]:
            ranks = decide(game)
            ends = all_plays(game, ranks, lambda desk, paper, state: seek(desk, paper) and None)
            self.assertEqual(max(ends), ranks.rounds)

    def test_caught_within_the_rounds(self):
        chance = random.Random(461)
        caught = {late: 0 for late in LATES}
        for game in some_games(chance, 150, 462):
            try:
                ranks = decide(game, most=2000)
            except TooMany:
                continue
            if isinstance(ranks, Ranks):
                for paper in (ranks, ranks.pruned()):
                    desk = Desk(game)
                    while not desk.caught:
                        if desk.turn in ("begin", "send"):
                            knows = desk.knows
                            post = seek(desk, paper)
                            self.assertEqual(post, paper.first if knows is None else paper.send(knows))
                        runner_deed(chance, desk)
                    caught[game.late] += desk.played > 0
                    self.assertLessEqual(desk.played, paper.rounds)
        self.assertGreater(min(caught.values()), 5)

    def test_wrong(self):
        ranks = decide(LINE)
        for change in ({"seekers": 2}, {"travel": "fly"}, {"pace": "swift"}, {"late": 1}, {"web": line(3, 2)}):
            for desk in desks_in_all_turns().values():
                other = decide(LINE.changed(**change))
                self.fails(OtherGame(), seek, desk, other)
        for turn, desk in desks_in_all_turns().items():
            if turn in ("hide", "run", "over"):
                self.fails(NotNow(turn), seek, desk, ranks)
        # The paper has no row for this standing.
        few = Ranks(LINE, (1,), [((0, ((1,),), (place,)), 1, (place,)) for place in (0, 2)])
        desk = after(LINE, ("begin", (0,)), ("hide", 2))
        self.fails(UnknownStanding((0, ((0,),), (2,))), seek, desk, few)
        self.assertEqual(seek(Desk(LINE), few), (1,))


class Evade(Case):
    def test_a_game(self):
        game = Game(ring(4), 1)
        lot = decide(game)
        desk = after(game, ("begin", (0,)))
        self.assertEqual((evade(desk, lot), desk.runner, desk.turn), (2, 2, "send"))
        desk.send((1,))
        self.assertEqual((evade(desk, lot), desk.runner, desk.log[-1]), (3, 3, "run d"))

    def test_never_caught(self):
        chance = random.Random(463)
        free = 0
        for game in [*some_games(chance, 150, 464), Game(full(4), 3, travel="fly", pace="swift"), Game(ring(5), 1)]:
            game = game.changed(late=0)
            lot = decide(game)
            if isinstance(lot, Ranks):
                continue
            free += 1
            desk = Desk(game, memory=0)
            for _ in range(30):
                if desk.turn in ("hide", "run"):
                    place = evade(desk, lot)
                    self.assertEqual(place, desk.runner)
                    self.assertIn(desk.knows, lot)
                else:
                    self.assertIn(desk.turn, ("begin", "send"))
                    word, post = chance.choice(next_deeds_of(desk))
                    getattr(desk, word)(post)
            self.assertFalse(desk.caught)
        self.assertGreater(free, 25)

    def test_wrong(self):
        lot = decide(Game(ring(4), 1))
        game = Game(ring(4), 1)
        for late in (1, 2, 3, None):
            for other in desks_in_all_turns().values():
                self.fails(NotSeen(), evade, other, decide(game.changed(late=late)))
            self.fails(NotSeen(), evade, Desk(game.changed(late=late)), decide(game.changed(late=late)))
            self.fails(OtherGame(), evade, Desk(game.changed(late=late)), lot)
        for change in ({"pace": "swift"}, {"web": ring(4, 2)}):
            self.fails(OtherGame(), evade, Desk(game.changed(**change)), lot)
        desks = {turn: after(game, *deeds) for turn, deeds in [
            ("begin", []), ("hide", [("begin", (0,))]), ("send", [("begin", (0,)), ("hide", 1)]),
            ("run", [("begin", (0,)), ("hide", 2), ("send", (1,))]), ("over", [("begin", (0,)), ("hide", 1), ("send", (1,))])]}
        for turn, desk in desks.items():
            self.assertEqual(desk.turn, turn)
            if turn in ("begin", "send", "over"):
                self.fails(NotNow(turn), evade, desk, lot)
        # The runner stands where the lot has it not.
        bare = Game(Web.tied(list("abcde"), [("a", "b"), ("b", "c"), ("c", "d"), ("d", "a"), ("d", "e")]), 1)
        desk = after(bare, ("begin", (0,)), ("hide", 4), ("send", (0,)))
        lot = Lot(bare, [standing for standing in decide(bare) if standing[2] != (4,)])
        self.fails(UnknownStanding((0, ((0,),), (4,))), evade, desk, lot)


def next_deeds_of(desk):
    """All deeds of the seekers that can be done on a desk."""
    if desk.turn == "begin":
        return [("begin", post) for post in desk.game.posts()]
    return [("send", post) for post in desk.game.sends(desk.beat, desk.here)]


class Obey(Case):
    def test_a_game(self):
        game = Game(line(4), 1, late=1)
        plan = read_plan("begin b\nstate s\nnone : go c then t\nstate t\ntold d : go d then s\nelse : stay then u\nstate u\nelse : go a then s")
        desk = Desk(game)
        self.assertEqual((obey(desk, plan), desk.turn, desk.here), ("s", "hide", (1,)))
        desk.hide(0)
        self.assertEqual((obey(desk, plan, "s"), desk.sent), ("t", (2,)))
        desk.run(1)
        self.assertEqual((desk.heard, obey(desk, plan, "t"), desk.sent, desk.log[-1]), (0, "u", (2,), "send c"))
        desk.run(1)
        # The seeker cannot go there, so it stays.
        self.assertEqual((obey(desk, plan, "u"), desk.sent), ("s", (2,)))

    def test_states(self):
        plan = read_plan("begin b\nstate s\nelse : go a then t\nstate t\nelse : go c then t")
        for state, begun, sent in [(None, "s", (0,)), ("s", "s", (0,)), ("t", "t", (2,))]:
            desk = Desk(LINE)
            self.assertEqual((obey(desk, plan, state), desk.here), (begun, (1,)))
            desk.hide(0)
            self.assertEqual((obey(desk, plan, state), desk.here if desk.caught else desk.sent), ("t", sent))

    def test_as_the_positions_tell(self):
        # What is sent is what next_positions sends, with the words none and else as names of places too.
        chance = random.Random(465)
        for game in some_games(chance, 80, 466):
            names = ["none", "else", "go", "stay"][: len(game.web)]
            game = game.changed(web=game.web.renamed(names))
            plan = some_fit_plan(chance, game)
            desk, state = Desk(game), None
            for _ in range(8):
                if desk.turn in ("begin", "send"):
                    told = None if desk.heard is None else names[desk.heard]
                    turn, here, beat = desk.turn, desk.here, desk.beat
                    action, then = plan(plan.start if state is None else state, told)
                    state = obey(desk, plan, state)
                    if turn == "begin":
                        self.assertEqual((state, desk.here), (plan.start, tuple(sorted(names.index(name) for name in plan.opening))))
                        continue
                    wanted = None if action is None else tuple(sorted(names.index(name) for name in action))
                    sent = desk.here if desk.caught else desk.sent
                    self.assertEqual((state, sent), (then, wanted if wanted in game.sends(beat, here) else here))
                runner_deed(chance, desk)

    def test_sure_plans(self):
        chance = random.Random(467)
        caught = {late: 0 for late in LATES}
        for game in some_games(chance, 150, 468):
            try:
                paper = decide(game, most=2000)
            except TooMany:
                continue
            plans = [some_fit_plan(chance, game)]
            if isinstance(paper, Ranks):
                try:
                    plans.append(compiled(paper))
                except TooMany:
                    continue
            for plan in plans:
                verdict = judge(game, plan)
                desk, state = Desk(game), None
                if isinstance(verdict, Sure):
                    while not desk.caught:
                        if desk.turn in ("begin", "send"):
                            state = obey(desk, plan, state)
                        runner_deed(chance, desk)
                    caught[game.late] += desk.played > 0
                    self.assertLessEqual(desk.played, verdict.rounds)
                else:
                    self.assertIsInstance(verdict, Escape)
                    self.runs_as_told(desk, plan, verdict)
        self.assertGreater(min(caught.values()), 5)

    def runs_as_told(self, desk, plan, escape):
        """The runner who runs as the Escape says is not caught while the seekers obey the plan."""
        state = obey(desk, plan)
        desk.hide(escape.where(0))
        for moment in range(1, 25):
            state = obey(desk, plan, state)
            desk.run(escape.where(moment))
        self.assertFalse(desk.caught)

    def test_every_way_of_running(self):
        for game in [Game(line(4), 1), Game(line(3), 1, late=2), Game(ring(4), 2, late=None), Game(line(3), 2, travel="fly")]:
            paper = decide(game)
            plan = compiled(paper)
            self.assertEqual(max(all_plays(game, plan, obey)), judge(game, plan).rounds)

    def test_wrong(self):
        fine = read_plan("begin b\nstate s")
        for turn, desk in desks_in_all_turns().items():
            for unfit, error in [(read_plan("begin\nstate s"), UnfitPlan("opening", 0)),
                                 (read_plan("begin a\nstate s\nstate t\ntold z : stay then t"), UnfitPlan("state", 1))]:
                self.fails(error, obey, desk, unfit)
                self.fails(error, obey, desk, unfit, "unknown")
            for state in ("t", "", "b", "S"):
                self.fails(UnknownName(state), obey, desk, fine, state)
            if turn in ("hide", "run", "over"):
                self.fails(NotNow(turn), obey, desk, fine)
                self.fails(NotNow(turn), obey, desk, fine, "s")

    def test_memory_and_log(self):
        desk = Desk(LINE, memory=1)
        plan = Plan(["a"], [("s", [])])
        held = tells(desk)
        obey(desk, plan)
        desk.undo()
        self.assertEqual(tells(desk), held)


if __name__ == "__main__":
    unittest.main()
