"""Points [84] to [86]: what holds across games, on small webs."""

import random
import unittest

from helpers import Case, full, line, many_webs, oneway, ring, some_web, web_of
from tagwebs.deciding import decide
from tagwebs.errors import TooMany
from tagwebs.games import Game
from tagwebs.leasts import least
from tagwebs.papers import Lot, Ranks

ENDLESS = 10 ** 9
LATER = (0, 1, 2, 3, None)


def rounds(game, most=1500):
    """The rounds of a game as point [84] says, or None if there are too many moves to tell."""
    try:
        paper = decide(game, most=most)
    except TooMany:
        return None
    return paper.rounds if isinstance(paper, Ranks) else ENDLESS


def webs():
    return [line(3), line(4), ring(4), oneway(3), full(3), web_of(3, 2, {(0, 0, 1), (0, 1, 0), (1, 1, 2), (1, 2, 1)}),
            *many_webs(121, 20, 4, 2)]


def plays(web, lates=(0, 1, None)):
    """Games of all kinds on a web."""
    return [
        Game(web, seekers, travel=travel, pace=pace, late=late)
        for travel in ("walk", "fly") for pace in ("step", "swift") for late in lates for seekers in (1, 2)
    ]


class Rounds(Case):
    def not_fewer(self, games):
        """The rounds of the games, in their order, do not become fewer."""
        found = [rounds(game) for game in games]
        told = [number for number in found if number is not None]
        self.assertEqual(told, sorted(told))
        return len(told) > 1 and told[0] < told[-1]

    def test_later(self):
        more = 0
        for web in webs():
            for game in plays(web, (0,)):
                more += self.not_fewer([game.changed(late=late) for late in LATER])
        self.assertGreater(more, 10)

    def test_swift(self):
        more = 0
        for web in webs():
            for game in plays(web):
                more += self.not_fewer([game.changed(pace=pace) for pace in ("step", "swift")])
        self.assertGreater(more, 10)

    def test_fewer_seekers(self):
        more = 0
        for web in webs():
            for game in plays(web):
                more += self.not_fewer([game.changed(seekers=number) for number in (3, 2, 1)])
        self.assertGreater(more, 20)

    def test_wider_webs_for_those_who_fly(self):
        chance = random.Random(122)
        more = 0
        for web in webs():
            narrow = web & some_web(chance, len(web), web.beats, 6).renamed(web.places)
            self.assertTrue(narrow.within(web))
            for game in plays(web):
                if game.travel == "fly":
                    more += self.not_fewer([game.changed(web=narrow), game])
        self.assertGreater(more, 10)

    def test_what_changes_nothing(self):
        chance = random.Random(123)
        for web in webs():
            order = list(range(len(web)))
            chance.shuffle(order)
            others = [web.renamed(["w", "x", "yy", "zzz"][: len(web)]), web.restricted(order)]
            others += [web.unrolled(times) for times in (2, 3, 4) if times * web.beats <= 4]
            for game in plays(web, (0, 2, None)):
                found = rounds(game)
                for other in others:
                    self.assertIn(rounds(game.changed(web=other)), (found, None))

    def test_a_number_is_that_of_least(self):
        for web in webs()[:12]:
            number = least(web, travel="fly", pace="swift", late=1, most=20000).number
            self.assertEqual(number, least(web.renamed(web.places[::-1]), travel="fly", pace="swift", late=1, most=20000).number)
            self.assertLessEqual(least(web, travel="fly", pace="step", late=1, most=20000).number, number)


class Papers(Case):
    def test_swift_and_step(self):
        kinds = {Ranks: 0, Lot: 0}
        for web in webs():
            for seekers in (1, 2):
                for travel in ("walk", "fly"):
                    step = Game(web, seekers, travel=travel)
                    swift = step.changed(pace="swift")
                    quick, slow = decide(swift), decide(step)
                    if isinstance(quick, Ranks):
                        kinds[Ranks] += 1
                        moved = Ranks(step, quick.first, quick.rows())
                        self.assertEqual((moved.rows(), moved.first), (quick.rows(), quick.first))
                    if isinstance(slow, Lot):
                        kinds[Lot] += 1
                        self.assertEqual(Lot(swift, slow.rows()).rows(), slow.rows())
        self.assertGreater(min(kinds.values()), 10)

    def test_within(self):
        chance = random.Random(124)
        kinds = {Ranks: 0, Lot: 0}
        for web in webs():
            narrow = web & some_web(chance, len(web), web.beats, 7).renamed(web.places)
            for pace in ("step", "swift"):
                for seekers in (1, 2, 3):
                    wide = Game(web, seekers, travel="fly", pace=pace)
                    small = wide.changed(web=narrow)
                    paper = decide(wide)
                    if isinstance(paper, Ranks):
                        kinds[Ranks] += 1
                        self.assertEqual(Ranks(small, paper.first, paper.rows()).rows(), paper.rows())
                    other = decide(small)
                    if isinstance(other, Lot):
                        kinds[Lot] += 1
                        self.assertEqual(Lot(wide, other.rows()).rows(), other.rows())
        self.assertGreater(min(kinds.values()), 5)


if __name__ == "__main__":
    unittest.main()
