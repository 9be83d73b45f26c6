"""Points [84] to [88]: what holds across games, on small webs."""

import random
import unittest

from helpers import Case, every_plain, full, line, many_webs, oneway, ring, some_plain, some_web, web_of
from tagwebs.bagging import bag_answer, least_bags
from tagwebs.bagpapers import bags_ranks, sides_lot
from tagwebs.bags import Bags
from tagwebs.clearing import least_row
from tagwebs.deciding import decide
from tagwebs.errors import TooMany
from tagwebs.games import Game
from tagwebs.leasts import least
from tagwebs.papers import Lot, Ranks
from tagwebs.reaching import is_joined

ENDLESS = 10 ** 9
LATER = (0, 1, 2, 3, None)


def rounds(game, most=1500):
    """The rounds of a game as point [84] says, or None if there are too many moves to tell."""
    try:
        paper = decide(game, most=most)
    except TooMany:
        return None
    return paper.rounds if isinstance(paper, Ranks) else ENDLESS


def webs():
    return [line(3), line(4), ring(4), oneway(3), full(3), web_of(3, 2, {(0, 0, 1), (0, 1, 0), (1, 1, 2), (1, 2, 1)}),
            *many_webs(121, 20, 4, 2)]


def plays(web, lates=(0, 1, None)):
    """Games of all kinds on a web."""
    return [
        Game(web, seekers, travel=travel, pace=pace, late=late)
        for travel in ("walk", "fly") for pace in ("step", "swift") for late in lates for seekers in (1, 2)
    ]


class Rounds(Case):
    def not_fewer(self, games):
        """The rounds of the games, in their order, do not become fewer."""
        found = [rounds(game) for game in games]
        told = [number for number in found if number is not None]
        self.assertEqual(told, sorted(told))
        return len(told) > 1 and told[0] < told[-1]

    def test_later(self):
        more = 0
        for web in webs():
            for game in plays(web, (0,)):
                more += self.not_fewer([game.changed(late=late) for late in LATER])
        self.assertGreater(more, 10)

    def test_swift(self):
        more = 0
        for web in webs():
            for game in plays(web):
                more += self.not_fewer([game.changed(pace=pace) for pace in ("step", "swift")])
        self.assertGreater(more, 10)

    def test_fewer_seekers(self):
        more = 0
        for web in webs():
            for game in plays(web):
                more += self.not_fewer([game.changed(seekers=number) for number in (3, 2, 1)])
        self.assertGreater(more, 20)

    def test_wider_webs_for_those_who_fly(self):
        chance = random.Random(122)
        more = 0
        for web in webs():
            narrow = web & some_web(chance, len(web), web.beats, 6).renamed(web.places)
            self.assertTrue(narrow.within(web))
            for game in plays(web):
                if game.travel == "fly":
                    more += self.not_fewer([game.changed(web=narrow), game])
        self.assertGreater(more, 10)

    def test_what_changes_nothing(self):
        chance = random.Random(123)
        for web in webs():
            order = list(range(len(web)))
            chance.shuffle(order)
            others = [web.renamed(["w", "x", "yy", "zzz"][: len(web)]), web.restricted(order)]
            others += [web.unrolled(times) for times in (2, 3, 4) if times * web.beats <= 4]
            for game in plays(web, (0, 2, None)):
                found = rounds(game)
                for other in others:
                    self.assertIn(rounds(game.changed(web=other)), (found, None))

    def test_a_number_is_that_of_least(self):
        for web in webs()[:12]:
            number = least(web, travel="fly", pace="swift", late=1, most=20000).number
            self.assertEqual(number, least(web.renamed(web.places[::-1]), travel="fly", pace="swift", late=1, most=20000).number)
            self.assertLessEqual(least(web, travel="fly", pace="step", late=1, most=20000).number, number)


class Papers(Case):
    def test_swift_and_step(self):
        kinds = {Ranks: 0, Lot: 0}
        for web in webs():
            for seekers in (1, 2):
                for travel in ("walk", "fly"):
                    step = Game(web, seekers, travel=travel)
                    swift = step.changed(pace="swift")
                    quick, slow = decide(swift), decide(step)
                    if isinstance(quick, Ranks):
                        kinds[Ranks] += 1
                        moved = Ranks(step, quick.first, quick.rows())
                        self.assertEqual((moved.rows(), moved.first), (quick.rows(), quick.first))
                    if isinstance(slow, Lot):
                        kinds[Lot] += 1
                        self.assertEqual(Lot(swift, slow.rows()).rows(), slow.rows())
        self.assertGreater(min(kinds.values()), 10)

    def test_within(self):
        chance = random.Random(124)
        kinds = {Ranks: 0, Lot: 0}
        for web in webs():
            narrow = web & some_web(chance, len(web), web.beats, 7).renamed(web.places)
            for pace in ("step", "swift"):
                for seekers in (1, 2, 3):
                    wide = Game(web, seekers, travel="fly", pace=pace)
                    small = wide.changed(web=narrow)
                    paper = decide(wide)
                    if isinstance(paper, Ranks):
                        kinds[Ranks] += 1
                        self.assertEqual(Ranks(small, paper.first, paper.rows()).rows(), paper.rows())
                    other = decide(small)
                    if isinstance(other, Lot):
                        kinds[Lot] += 1
                        self.assertEqual(Lot(wide, other.rows()).rows(), other.rows())
        self.assertGreater(min(kinds.values()), 5)

    def test_papers_of_bags_and_sides(self):
        for web in [ring(5), full(4, 2), line(6), some_plain(random.Random(125), 6, 5)]:
            found = least_bags(web)
            ranks = bags_ranks(found.bags)
            self.assertEqual(Ranks(ranks.game.changed(pace="step"), ranks.first, ranks.rows()).rows(), ranks.rows())
            narrow = web & line(len(web), web.beats)
            self.assertEqual(len(Ranks(ranks.game.changed(web=narrow), ranks.first, ranks.rows())), len(ranks))
            lot = sides_lot(found.sides)
            wide = full(len(web), web.beats)
            self.assertEqual(Lot(lot.game.changed(web=wide), lot.rows()).rows(), lot.rows())


def joined_webs():
    chance = random.Random(126)
    webs = [web for count in (1, 2, 3, 4) for web in every_plain(count)]
    webs += [ring(5), full(5, 2), line(6), *[some_plain(chance, 5, share) for share in (4, 6, 8)]]
    return [web for web in webs if is_joined(web)]


class PlainWebs(Case):
    def test_told_late(self):
        kinds = {Ranks: 0, Lot: 0}
        for web in [*joined_webs(), *[web for web in every_plain(3) if not is_joined(web)]]:
            for seekers in range(1, len(web) + 1):
                game = Game(web, seekers, travel="fly", pace="swift")
                seen = rounds(game, 20000)
                self.assertIs(seen < ENDLESS, isinstance(bag_answer(web, seekers), Bags))
                for late in range(1, 4):
                    found = rounds(game.changed(late=late), 3000)
                    if found is None:
                        continue
                    kinds[Lot if found == ENDLESS else Ranks] += 1
                    self.assertIs(found == ENDLESS, seen == ENDLESS)
                    if found < ENDLESS:
                        self.assertLessEqual(found, (late + 1) * seen)
        self.assertGreater(min(kinds.values()), 15)

    def test_those_who_walk_are_not_more_than_those_who_fly(self):
        told = 0
        for web in joined_webs():
            bags, row = least_bags(web).number, least_row(web).number
            self.assertLessEqual(bags, row)
            self.assertLessEqual(least(web).number, 1 + (bags - 1) // 2)
            if bags <= 4:
                self.assertLessEqual(least(web, pace="swift", most=20000).number, bags)
            if row <= 4:
                try:
                    self.assertLessEqual(least(web, pace="swift", late=None, most=20000).number, row)
                except TooMany:
                    continue
                told += 1
        self.assertGreater(told, 8)


if __name__ == "__main__":
    unittest.main()
