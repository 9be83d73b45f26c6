"""Points [71] and [72]: judging plans."""

import random
import unittest
from itertools import product

from helpers import Case, full, line, oneway, ring
from playing import LATES, begun, clever_plan, go_on, some_fit_plan, some_games
from tagwebs.compiling import compiled
from tagwebs.deciding import decide
from tagwebs.errors import BadNumber, TooMany, UnfitPlan, UnknownPlace, UnknownPosition
from tagwebs.games import Game
from tagwebs.judging import Escape, Sure, Verdict, is_escape, judge
from tagwebs.papers import Ranks
from tagwebs.plans import Plan
from tagwebs.plantext import read_plan
from tagwebs.webs import Web

WAIT = Plan(["b"], [("s", [])])


def all_positions(game, plan):
    """All positions that come up, each with those that can follow."""
    nexts, ahead = {}, begun(game, plan)
    while ahead:
        position = ahead.pop()
        if position not in nexts:
            nexts[position] = go_on(game, plan, position)
            ahead += nexts[position]
    return nexts


def worth(nexts):
    """How long the runner can put off being caught from each position, by trying every number of rounds in turn."""
    found, rounds, grown = {}, 0, True
    while grown:
        rounds += 1
        fresh = [one for one, others in nexts.items() if one not in found and all(other in found for other in others)]
        grown = bool(fresh)
        found.update({one: rounds for one in fresh})
    return found


def is_way_out(game, plan, stem, ring):
    """True if the runner can be at these places for ever, and the positions come again as point [71] says."""
    if not ring:
        return False
    places = [*stem, *ring, *ring, *ring]
    ahead, passed = begun(game, plan), []
    for place in places:
        ahead = [position for position in ahead if position[2][-1] == place]
        if not ahead:
            return False
        passed.append(ahead[0])
        ahead = go_on(game, plan, ahead[0])
    return passed[len(stem)] == passed[len(stem) + len(ring)]


def judged_plans(seed, number):
    """Games with plans of all kinds, some of which catch the runner."""
    chance = random.Random(seed)
    for at, game in enumerate(some_games(chance, number, seed + 1)):
        yield game, some_fit_plan(chance, game)
        if at % 3 == 0:
            try:
                paper = decide(game, most=2000)
            except TooMany:
                continue
            if isinstance(paper, Ranks):
                try:
                    yield game, compiled(paper)
                except TooMany:
                    continue


class Judge(Case):
    def test_example(self):
        game = Game(Web.tied(["a", "b", "c"], [("a", "b"), ("b", "c")]), 1)
        plan = read_plan("begin b\nstate s\ntold a : go a then s")
        self.assertEqual(
            [judge(game, plan).told(), is_escape(game, plan, [], [2]), is_escape(game, plan, [], [0])],
            ["free for ever", True, False])

    def test_sure(self):
        game = Game(line(3), 1)
        plan = read_plan("begin b\nstate s\ntold a : go a then s\ntold c : go c then s")
        sure = self.keeps(judge, game, plan)
        self.assertEqual((type(sure), sure.game, sure.plan, sure.rounds, sure.told(), len(sure)), (Sure, game, plan, 1, "sure within 1", 2))
        self.assertEqual([sure.rank((0, (1,), (place,), "s")) for place in (0, 2)], [1, 1])
        slow = read_plan("begin a\nstate s\nelse : go b then t\nstate t\ntold c : go c then t\ntold a : go a then t")
        sure = judge(game, slow)
        self.assertEqual((sure.rounds, len(sure), sure.told()), (2, 3, "sure within 2"))
        self.assertEqual([sure.rank((0, (0,), (place,), "s")) for place in (1, 2)], [1, 2])
        self.assertEqual(sure.rank((0, (1,), (2,), "t")), 1)
        for position in [(0, (1,), (0,), "t"), (0, (0,), (1,), "t"), (0, (0,), (0,), "s"), (1, (0,), (1,), "s"), (0, (0,), (1,), "x"),
                         (0, (), (), "s")]:
            self.fails(UnknownPosition(position), sure.rank, position)

    def test_no_free_place(self):
        for game, plan in [(Game(line(2), 2), read_plan("begin a b\nstate s")), (Game(Web(["b"], []), 1), WAIT),
                           (Game(line(2), 2, travel="fly", late=None), read_plan("begin a b\nstate s\nnone : go then s"))]:
            sure = judge(game, plan)
            self.assertEqual((type(sure), sure.rounds, len(sure), sure.told()), (Sure, 0, 0, "sure within 0"))
            self.fails(UnknownPosition((0, (0,), (0,), "s")), sure.rank, (0, (0,), (0,), "s"))
            self.assertEqual(judge(game, plan, most=1).rounds, 0)
            self.assertFalse(is_escape(game, plan, [], [0]))
            self.assertFalse(is_escape(game, plan, [0], []))

    def test_escape(self):
        game = Game(line(3), 1, late=2)
        escape = self.keeps(judge, game, WAIT)
        self.assertEqual((type(escape), escape.game, escape.plan, escape.told()), (Escape, game, WAIT, "free for ever"))
        self.assertTrue(is_escape(game, WAIT, escape.stem, escape.ring))
        self.assertIsInstance(escape.ring, tuple)
        self.assertIsInstance(escape.stem, tuple)
        # What the seekers are told has not come about at the first moments, so there is a stem.
        self.assertGreaterEqual(len(escape.stem), 2)
        for moment in range(12):
            places = [*escape.stem, *escape.ring * 12]
            self.assertEqual(escape.where(moment), places[moment])
        for moment in (-1, -10 ** 9):
            self.fails(BadNumber(moment), escape.where, moment)
        self.assertIn(escape.where(10 ** 9), escape.ring)

    def test_classes(self):
        self.assertEqual((Sure.__bases__, Escape.__bases__, Verdict.__bases__), ((Verdict,), (Verdict,), (object,)))

    def test_all(self):
        kinds = {Sure: 0, Escape: 0}
        longest, varied = 0, 0
        for game, plan in judged_plans(411, 250):
            nexts = all_positions(game, plan)
            ranks = worth(nexts)
            verdict = judge(game, plan)
            kinds[type(verdict)] += 1
            self.assertEqual((verdict.game, verdict.plan), (game, plan))
            if len(ranks) == len(nexts):
                rounds = max([0, *[ranks[position] for position in begun(game, plan)]])
                longest = max(longest, rounds)
                self.assertEqual((type(verdict), verdict.rounds, len(verdict)), (Sure, rounds, len(nexts)))
                self.assertEqual({position: verdict.rank(position) for position in nexts}, ranks)
                self.assertEqual(verdict.told(), f"sure within {rounds}")
                continue
            self.assertIs(type(verdict), Escape)
            self.assertGreaterEqual(len(verdict.ring), 1)
            self.assertTrue(is_way_out(game, plan, list(verdict.stem), list(verdict.ring)))
            self.assertTrue(is_escape(game, plan, verdict.stem, verdict.ring))
            self.assertTrue(is_escape(game, plan, list(verdict.stem), list(verdict.ring)))
            places = [*verdict.stem, *verdict.ring * 9]
            self.assertEqual([verdict.where(moment) for moment in range(9)], places[:9])
            varied += len(verdict.stem) % len(verdict.ring) > 0 and len(set(places)) > 1
        self.assertGreater(varied, 5)
        self.assertGreater(min(kinds.values()), 20)
        self.assertGreater(longest, 3)

    def test_only_one_way_out(self):
        # The seeker goes round after the runner; from one place only it is never caught.
        game = Game(oneway(4), 1)
        escape = judge(game, clever_plan(game))
        self.assertTrue(is_escape(game, clever_plan(game), escape.stem, escape.ring))

    def test_most(self):
        for game, plan in [(Game(line(3), 1, late=1), WAIT), (Game(ring(4), 1), Plan(["a"], [("s", [])])),
                           (Game(line(3), 1), read_plan("begin a\nstate s\nelse : go b then t\nstate t\ntold c : go c then t"))]:
            many = len(all_positions(game, plan))
            self.assertIsNotNone(judge(game, plan, most=many))
            self.fails(TooMany(many - 1), judge, game, plan, most=many - 1)
            self.fails(TooMany(1), judge, game, plan, most=1)
        large = Game(full(8), 1, pace="swift", late=3)
        self.fails(TooMany(1000), judge, large, WAIT, most=1000)
        self.assertEqual(len(all_positions(Game(full(8), 1, late=3), WAIT)), 7 + 49 + 343 + 2401)
        self.assertEqual(judge(Game(full(8), 1, late=3), WAIT).told(), "free for ever")
        self.fails(TooMany(2799), judge, Game(full(8), 1, late=3), WAIT, most=2799)
        self.assertEqual(judge(Game(full(8), 1, late=3), WAIT, most=20000).told(), "free for ever")

    def test_long_plans(self):
        # Far more rounds than Python can call functions in each other.
        names = [f"{one}{two}" for one in "abcde" for two in "abcdefgh"]
        wait = [("else", None, names[at + 1]) for at in range(39)]
        plan = Plan(["b"], [(name, [rule]) for name, rule in zip(names, [*wait, ("else", ["a", "b"], names[39])])])
        game = Game(Web(["a", "b"], [], beats=4), 2, travel="fly", late=3)
        self.assertEqual(judge(game, plan).rounds, 40)

    def test_wrong(self):
        game = Game(line(3), 1)
        for most in (0, -1, 20001):
            self.fails(BadNumber(most), judge, game, WAIT, most=most)
            self.fails(UnfitPlan("opening", 0), judge, game, Plan([], [("s", [])]), most=most)
            self.fails(UnfitPlan("state", 0), judge, game, read_plan("begin a\nstate s\ntold z : stay then s"), most=most)
        self.assertEqual(judge(game, WAIT, most=2).told(), "free for ever")


class IsEscape(Case):
    def test_stem_and_ring(self):
        game = Game(ring(4), 1)
        wait = Plan(["a"], [("s", [])])
        for stem, ring_places in [([], [1]), ([], [1, 2]), ([1], [2]), ([1, 2], [3, 2, 1, 2]), ([], [1, 2, 3, 2]), ([1, 1, 1], [1])]:
            self.assertTrue(is_escape(game, wait, stem, ring_places))
            self.assertTrue(is_escape(game, wait, tuple(stem), tuple(ring_places)))
        for stem, ring_places in [([], [0]), ([0], [1]), ([], [1, 3]), ([1], [3]), ([], [1, 0]), ([1, 2, 3], []), ([], [])]:
            self.assertFalse(self.keeps(is_escape, game, wait, stem, ring_places))
        # The last place of the ring must lead to the first one.
        self.assertFalse(is_escape(game, wait, [], [1, 2, 3]))
        self.assertTrue(is_escape(Game(ring(4), 1, pace="swift"), wait, [], [1, 2, 3]))

    def test_the_position_must_come_again(self):
        # The plan goes through three states, or the web through three beats, or the track has not its length yet.
        plan = read_plan("begin a\nstate s\nelse : stay then t\nstate t\nelse : stay then u\nstate u\nelse : stay then s")
        for game, wait, many in [(Game(line(3), 1), plan, 3), (Game(line(3, 3), 1), Plan(["a"], [("s", [])]), 3),
                                 (Game(line(3, 2), 1), plan, 6)]:
            for length in range(1, 13):
                self.assertIs(is_escape(game, wait, [], [2] * length), length % many == 0)
                self.assertIs(is_escape(game, wait, [2], [2] * length), length % many == 0)
        late = Game(line(3), 1, late=3)
        wait = Plan(["a"], [("s", [])])
        for stem in range(6):
            self.assertIs(is_escape(late, wait, [2] * stem, [2]), stem >= 3)
        self.assertIs(is_escape(late, wait, [1, 2, 2], [2]), False)
        self.assertIs(is_escape(late, wait, [1, 2, 2, 2], [2]), True)

    def test_wrong_places(self):
        game = Game(line(3), 1)
        for wrong in (3, -1, 10 ** 9):
            self.fails(UnknownPlace(wrong), is_escape, game, WAIT, [wrong, 7], [8])
            self.fails(UnknownPlace(wrong), is_escape, game, WAIT, [1, wrong], [8])
            self.fails(UnknownPlace(wrong), is_escape, game, WAIT, [0, 0], [0, wrong, 9])
            self.fails(UnknownPlace(wrong), is_escape, game, WAIT, [], [wrong])
            # Also beside an empty ring.
            self.fails(UnknownPlace(wrong), is_escape, game, WAIT, [0, wrong], [])
            self.fails(UnfitPlan("opening", 0), is_escape, game, Plan([], [("s", [])]), [wrong], [wrong])

    def test_all(self):
        chance = random.Random(413)
        seen = {True: 0, False: 0}
        for game in some_games(chance, 60, 414, 3):
            plan = some_fit_plan(chance, game)
            for stem, ring_places in product(*[[list(p) for n in range(3) for p in product(range(len(game.web)), repeat=n)]] * 2):
                wanted = is_way_out(game, plan, stem, ring_places)
                seen[wanted] += 1
                self.assertIs(is_escape(game, plan, stem, ring_places), wanted)
        self.assertGreater(min(seen.values()), 100)


class Lates(Case):
    def test_the_same_plan_told_late(self):
        # A plan that is sure when it is told at once need not be so when it is told late.
        plan = read_plan("begin b\nstate s\ntold a : go a then s\ntold c : go c then s")
        found = [judge(Game(line(3), 1, late=late), plan).told() for late in LATES]
        self.assertEqual(found, ["sure within 1", "sure within 2", "sure within 3", "sure within 4", "free for ever"])


if __name__ == "__main__":
    unittest.main()
