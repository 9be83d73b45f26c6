"""Points [50] and [52]: a row of bags or a shut family, and the least number of seekers."""

import random
import unittest

from helpers import (
    Case, every_doorless, every_plain, full, line, oneway, ring, some_doorless, some_plain, web_of,
)
from tagwebs.clearing import least_row, row_answer
from tagwebs.deciding import decide
from tagwebs.errors import BadNumber, NotDoorless, TooMany
from tagwebs.games import Game
from tagwebs.papers import Ranks
from tagwebs.products import box
from tagwebs.rows import Row
from tagwebs.rowpapers import row_ranks, shut_lot
from tagwebs.shuts import Blocking, Shut, clean_sets
from tagwebs.webs import Web
from test_bagging import large_webs, triangles

DOORS = web_of(2, 2, {(0, 0, 1), (0, 1, 0)})


def small_plain():
    return [web for count in (1, 2, 3, 4, 5) for web in every_plain(count)]


def small_doorless():
    return [web for count in (1, 2, 3, 4) for web in every_doorless(count)]


def large_doorless():
    chance = random.Random(201)
    half = web_of(8, 1, {(0, u, v) for u in range(8) for v in range(8) if u < v})
    return [oneway(8), half, *[some_doorless(chance, 8, share) for share in (1, 2, 3, 5)]]


def spread_width(web):
    """The least size of a row: for each set of places that are over or begun, how many must be held at once at most."""
    count = len(web)
    best = {0: 0}
    for begun in range(1, 2 ** count):
        found = []
        for place in range(count):
            if begun >> place & 1:
                before = begun & ~(1 << place)
                later = [u for u in range(count) if not before >> u & 1]
                held = [v for v in range(count) if before >> v & 1 and any(web.leads(u, v, 0) for u in later)]
                found.append(max(best[before], len(held) + 1))
        best[begun] = min(found)
    return best[2 ** count - 1]


class Answer(Case):
    def check(self, web, seekers, number):
        paper = self.keeps(row_answer, web, seekers)
        every = tuple(range(len(web)))
        if number <= seekers:
            self.assertIsInstance(paper, Row)
            self.assertLessEqual(paper.size, seekers)
            self.assertLessEqual(len(paper.bags), 10)
            self.assertEqual(Row(web, paper.bags), paper)
            # A shut family would have all clean sets, and so all places.
            self.assertIn(every, clean_sets(web, seekers))
        else:
            self.assertIs(type(paper), Blocking if web.plain else Shut)
            self.assertEqual((paper.web, paper.seekers), (web, seekers))
            self.assertEqual(type(paper)(web, seekers, list(paper)), paper)
            self.assertTrue(set(clean_sets(web, seekers)) <= set(paper))
            self.assertNotIn(every, clean_sets(web, seekers))
        return paper

    def test_every_small_plain_web(self):
        for web in small_plain():
            number = spread_width(web)
            for seekers in range(9 if len(web) < 5 else 5):
                self.check(web, seekers, number)

    def test_every_small_doorless_web(self):
        for web in small_doorless():
            number = spread_width(web)
            for seekers in range(number + 1):
                self.check(web, seekers, number)
            self.check(web, 8, number)

    def test_webs_of_eight(self):
        for web in [*large_webs(), *large_doorless()]:
            number = spread_width(web)
            for seekers in {number // 2, number - 1, number}:
                self.check(web, seekers, number)

    def test_with_beats(self):
        for web in [ring(5, 3), full(4, 4), oneway(5, 2)]:
            number = spread_width(web)
            for seekers in range(9):
                self.check(web, seekers, number)

    def test_a_set_from_which_one_comes_to_its_opposite(self):
        # Two triangles a, c, f and b, d, g with the place e between them. From all places but e two seekers come to
        # its opposite, so the former cannot stand in a blocking.
        pairs = [("a", "c"), ("a", "f"), ("c", "f"), ("b", "d"), ("b", "g"), ("d", "g"), ("e", "f"), ("e", "g")]
        web = Web.tied(list("abcdefg"), pairs)
        blocking = self.check(web, 2, 3)
        self.assertNotIn((0, 1, 2, 3, 5, 6), blocking)
        self.assertIn((4, 5, 6), blocking)
        chance = random.Random(202)
        for _ in range(20):
            order = list(range(7))
            chance.shuffle(order)
            self.check(web.restricted(order), 2, 3)
            self.check(triangles().restricted(order), 2, 3)

    def test_like_decide(self):
        kinds = {True: 0, False: 0}
        chance = random.Random(203)
        some = [web for count in (1, 2, 3) for web in every_doorless(count)] + every_plain(4)
        some += [some_doorless(chance, 4, share, 1 + share % 2) for share in (1, 2, 3, 4, 5, 6)] + [line(8), ring(6)]
        for web in some:
            for seekers in range(1, 9):
                game = Game(web, seekers, travel="fly", pace="swift", late=None)
                try:
                    paper = decide(game, most=20000)
                except TooMany:
                    continue
                found = row_answer(web, seekers)
                kinds[isinstance(paper, Ranks)] += 1
                self.assertIs(isinstance(found, Row), isinstance(paper, Ranks))
                self.assertIs(tuple(range(len(web))) in clean_sets(web, seekers), isinstance(paper, Ranks))
                if isinstance(found, Row):
                    self.assertLessEqual(paper.rounds, row_ranks(found).rounds)
                else:
                    # The lot of the family begins with standings that come up.
                    lot = shut_lot(found)
                    self.assertTrue(all(lot.entry(post) in paper for post in game.posts()))
        self.assertGreater(min(kinds.values()), 25)

    def test_wrong(self):
        for seekers in (-1, 9, 10 ** 9):
            self.fails(BadNumber(seekers), row_answer, line(3), seekers)
            self.fails(BadNumber(seekers), row_answer, oneway(3), seekers)
            self.fails(NotDoorless(), row_answer, DOORS, seekers)


class Least(Case):
    def test_known_numbers(self):
        some = [
            (line(1), 1), (line(2), 2), (line(8), 2), (ring(3), 3), (ring(8), 3), (full(8), 8), (oneway(3), 2), (oneway(8), 2),
            (Web(list("abcdefgh"), []), 1), (box(line(2), line(4)), 3), (triangles(), 3),
            (web_of(8, 1, {(0, u, v) for u in range(8) for v in range(u)}), 1),
        ]
        for web, number in some:
            self.assertEqual(least_row(web).number, number)

    def test_every_web(self):
        chance = random.Random(204)
        webs = [*small_plain(), *[web for count in (1, 2, 3) for web in every_doorless(count)]]
        webs += [some_doorless(chance, 4 + chance.randrange(3), 2 + chance.randrange(5), 1 + chance.randrange(2)) for _ in range(25)]
        webs += [some_plain(chance, 7, share) for share in (2, 3, 5)] + [*large_doorless(), ring(8)]
        for web in webs:
            found = self.keeps(least_row, web)
            number = spread_width(web)
            self.assertEqual((found.number, found.row.size, found.shut.seekers), (number, number, number - 1))
            self.assertLessEqual(len(found.row.bags), 10)
            self.assertEqual((found.row.web, found.shut.web), (web, web))
            self.assertIs(type(found.shut), Blocking if web.plain else Shut)
            self.assertEqual(Row(web, found.row.bags), found.row)
            self.assertEqual(type(found.shut)(web, number - 1, list(found.shut)), found.shut)

    def test_backward(self):
        turned = 0
        for web in [*small_doorless(), *large_doorless()]:
            turned += web.backward() != web
            self.assertEqual(least_row(web).number, least_row(web.backward()).number)
        self.assertGreater(turned, 100)

    def test_wrong(self):
        self.fails(NotDoorless(), least_row, DOORS)


if __name__ == "__main__":
    unittest.main()
