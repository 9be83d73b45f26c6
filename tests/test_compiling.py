"""Points [73] and [90]: plans made of the papers of the seekers."""

import random
import unittest

from helpers import Case, full, line, many_webs, oneway, ring
from playing import LATES, some_fit_plan, some_games
from tagwebs.bagging import least_bags
from tagwebs.bagpapers import bags_ranks
from tagwebs.clearing import least_row
from tagwebs.compiling import compiled
from tagwebs.corners import fold_up
from tagwebs.chasing import folding_ranks
from tagwebs.deciding import decide
from tagwebs.errors import TooMany
from tagwebs.games import Game
from tagwebs.judging import Escape, Sure, is_escape, judge
from tagwebs.papers import Lot, Ranks
from tagwebs.plans import Plan
from tagwebs.positions import check_plan
from tagwebs.rowpapers import row_ranks
from tagwebs.standings import answers, first_standings
from tagwebs.webs import Web


def stops_of(ranks):
    """The number of the stops that point [73] counts."""
    rows = ranks.pruned().rows()
    return len({standing if ranks.game.late is None else standing[:2] for standing, _, _ in rows})


def dawdling(late, moments):
    """A Ranks of seekers who fly about for so many moments, always with other posts or beats, and then catch the runner."""
    web = Web(list("abcdefgh"), [], beats=4)
    game = Game(web, 8, travel="fly", late=late)
    clean = [()]
    for place in range(5):
        clean += [(*post, place) for post in clean]
    posts = [(0, 1, 2, 3, 4), *[clean[at // 4] for at in range(4, moments + 4)]]
    posts = [*posts[:moments], (5, 6, 7)]
    ahead, rows = first_standings(game, posts[0]), []
    for at in range(moments):
        for standing in ahead:
            rows.append((standing, moments - at, posts[at + 1]))
        ahead = [answer for standing in ahead for answer in answers(game, standing, posts[at + 1])]
        ahead = sorted(set(ahead))
    return Ranks(game, posts[0], rows)


class Compiled(Case):
    def check(self, ranks):
        plan = self.keeps(compiled, ranks)
        self.assertIs(type(plan), Plan)
        self.assertIsNone(check_plan(ranks.game, plan))
        sure = judge(ranks.game, plan, most=20000)
        self.assertIs(type(sure), Sure)
        self.assertLessEqual(sure.rounds, ranks.rounds)
        return sure

    def test_line(self):
        ranks = decide(Game(line(5), 1))
        sure = self.check(ranks)
        self.assertEqual(sure.rounds, ranks.rounds)

    def test_no_free_place(self):
        for game in [Game(Web(["a"], []), 1), Game(line(2), 2, late=None), Game(line(3), 3, travel="fly", late=1)]:
            ranks = decide(game)
            self.assertEqual((ranks.rounds, stops_of(ranks)), (0, 0))
            self.assertEqual(self.check(ranks).rounds, 0)

    def test_all(self):
        chance = random.Random(421)
        seen = {late: 0 for late in LATES}
        longest, many = 0, 0
        larger = [Game(line(7), 1), Game(ring(6), 2), Game(line(5, 2), 1, late=None), Game(line(5), 1, pace="swift", late=None)]
        larger += [Game(line(5), 2, travel="fly", pace="swift", late=late) for late in LATES]
        for game in [*some_games(chance, 300, 422), *larger]:
            try:
                ranks = decide(game, most=20000)
            except TooMany:
                continue
            if isinstance(ranks, Lot):
                continue
            count = stops_of(ranks)
            if count > 40:
                self.fails(TooMany(count), compiled, ranks)
                continue
            seen[game.late] += 1
            longest, many = max(longest, ranks.rounds), max(many, count)
            # No plan is sure within fewer rounds than decide tells.
            self.assertEqual(self.check(ranks).rounds, ranks.rounds)
            self.check(ranks.pruned())
        self.assertGreater(min(seen.values()), 10)
        self.assertGreater(longest, 3)
        self.assertGreater(many, 4)

    def test_papers_that_are_not_the_best(self):
        for web in (line(5), ring(5, 2), full(3)):
            self.check(bags_ranks(least_bags(web).bags))
            self.check(row_ranks(least_row(web).row))
        self.check(folding_ranks(fold_up(line(6, 2))))
        self.check(row_ranks(least_row(oneway(4, 2)).row))

    def test_most_stops(self):
        for late in (0, 1, 2, None):
            fine = dawdling(late, 40)
            self.assertEqual(stops_of(fine), 40)
            self.assertEqual(self.check(fine).rounds, 40)
            more = dawdling(late, 41)
            self.assertEqual(stops_of(more), 41)
            self.fails(TooMany(41), compiled, more)

    def test_only_stops_that_come_up_count(self):
        # The paper has rows to which the seekers never come.
        fine = dawdling(None, 40)
        posts = [post for post in fine.game.posts() if 7 not in post and 6 in post][-9:]
        rows = [*fine.rows(), *[((0, (post,), (7,)), 1, (7,)) for post in posts]]
        ranks = Ranks(fine.game, fine.first, rows)
        self.assertGreater(len(ranks), len(fine))
        self.assertEqual(self.check(ranks).rounds, 40)


class Deciding(Case):
    def test_sure_plans_and_lots(self):
        # Point [90]: where a plan is sure, the seekers win, within no more rounds; against a Lot every plan fails.
        chance = random.Random(423)
        seen = {Sure: 0, Escape: 0}
        for game in some_games(chance, 150, 424):
            try:
                paper = decide(game, most=2000)
            except TooMany:
                continue
            for _ in range(4):
                plan = some_fit_plan(chance, game)
                verdict = judge(game, plan)
                if isinstance(verdict, Sure):
                    seen[Sure] += 1
                    self.assertIsInstance(paper, Ranks)
                    self.assertLessEqual(paper.rounds, verdict.rounds)
                elif isinstance(paper, Lot):
                    seen[Escape] += 1
                    self.assertTrue(is_escape(game, plan, verdict.stem, verdict.ring))
        self.assertGreater(min(seen.values()), 30)

    def test_a_plan_for_another_pace(self):
        # A plan that is sure against a swift runner is so against one that goes step by step.
        for web in [line(4), ring(4), *many_webs(425, 10, 4, 2)]:
            for travel in ("walk", "fly"):
                game = Game(web, 2, travel=travel, pace="swift")
                ranks = decide(game)
                if isinstance(ranks, Ranks) and stops_of(ranks) <= 40:
                    plan = compiled(ranks)
                    self.assertLessEqual(judge(game.changed(pace="step"), plan).rounds, ranks.rounds)


if __name__ == "__main__":
    unittest.main()
