"""Points [40] and [41]: a tree of bags or a table of sides, and the least number of seekers."""

import random
import unittest
from itertools import permutations

from helpers import Case, every_plain, full, line, oneway, ring, some_plain, subsets, web_of
from tagwebs.bagging import bag_answer, least_bags
from tagwebs.bagpapers import bags_ranks, sides_lot
from tagwebs.bags import Bags, bags_of
from tagwebs.deciding import decide
from tagwebs.errors import BadNumber, NotPlain, TooMany
from tagwebs.games import Game
from tagwebs.papers import Ranks
from tagwebs.products import box
from tagwebs.reaching import pieces, touch
from tagwebs.sides import Sides
from tagwebs.webs import Web


def small_webs():
    return [web for count in (1, 2, 3, 4, 5) for web in every_plain(count)]


def triangles():
    """Two triangles and a place between them."""
    ties = [("g", "e"), ("g", "c"), ("f", "d"), ("f", "b"), ("c", "a"), ("c", "e"), ("a", "b"), ("b", "d")]
    return Web.tied(list("abcdefg"), ties)


def large_webs():
    chance = random.Random(151)
    cube = box(line(2), box(line(2), line(2)))
    halves = Web.tied(list("abcdefgh"), [(u, v) for u in "abcd" for v in "efgh"])
    wheel = Web.tied(list("abcdefgh"), [(u, v) for u, v in zip("bcdefgh", "cdefghb")] + [("a", v) for v in "bcdefgh"])
    wagner = ring(8) | Web.tied(list("abcdefgh"), [("a", "e"), ("b", "f"), ("c", "g"), ("d", "h")])
    cliques = Web.tied(list("abcdefgh"), [(u, v) for four in ("abcd", "efgh") for u in four for v in four if u < v])
    named = [line(8), ring(8), full(8), cube, box(line(2), line(4)), halves, wheel, wagner, cliques, Web(list("abcdefgh"), [])]
    return named + [some_plain(chance, 8, share) for share in (1, 2, 3, 4, 5, 7)]


def width(web):
    """The least size of a tree of bags: over all orders, by filling in, place after place, for each set taken out."""
    count = len(web)
    near = [frozenset(v for v in web.steps(u, 0) if v != u) for u in range(count)]
    best = {frozenset(): 0}
    for many in range(count):
        for gone in [gone for gone in best if len(gone) == many]:
            for place in range(count):
                if place in gone:
                    continue
                seen, ahead = {place}, [place]
                while ahead:
                    for other in near[ahead.pop()]:
                        if other not in seen:
                            seen.add(other)
                            ahead += [other] if other in gone else []
                size = max(best[gone], len([other for other in seen if other not in gone]))
                key = gone | {place}
                best[key] = min(size, best.get(key, size))
    return best[frozenset(range(count))]


def has_sides(web, seekers):
    """Whether some choice of pieces, one for each post, all touch: by trying one post after the other."""
    posts = subsets(range(len(web)), seekers)

    def more(at, chosen):
        if at == len(posts):
            return True
        for piece in pieces(web, posts[at]):
            if all(touch(web, piece, other) for other in chosen) and more(at + 1, [*chosen, piece]):
                return True
        return False

    return more(0, [])


class Answer(Case):
    def check(self, web, seekers, number):
        paper = self.keeps(bag_answer, web, seekers)
        if number <= seekers:
            self.assertIsInstance(paper, Bags)
            self.assertLessEqual(paper.size, seekers)
            self.assertLessEqual(len(paper.bags), 10)
            self.assertEqual(Bags(web, paper.bags, paper.links), paper)
        else:
            self.assertIsInstance(paper, Sides)
            self.assertEqual((paper.web, paper.seekers), (web, seekers))
            self.assertEqual(Sides(web, seekers, paper.rows()), paper)
        return paper

    def test_every_small_web(self):
        for web in small_webs():
            number = width(web)
            for seekers in range(9):
                self.check(web, seekers, number)

    def test_there_is_never_the_other_paper(self):
        for web in small_webs():
            number = width(web)
            sizes = [bags_of(web, order).size for order in permutations(range(len(web)))]
            # No order has a lesser size, and there are no sides for so many seekers.
            self.assertEqual(min(sizes), number)
            self.assertFalse(has_sides(web, number))
            self.assertTrue(has_sides(web, number - 1))

    def test_webs_of_eight(self):
        for web in large_webs():
            number = width(web)
            for seekers in range(9):
                self.check(web, seekers, number)

    def test_with_beats(self):
        for web in [ring(5, 3), full(4, 4), line(6, 2)]:
            number = width(web)
            self.assertEqual(least_bags(web).number, number)
            for seekers in range(9):
                self.check(web, seekers, number)

    def test_a_side_that_is_given_up_again(self):
        # In the first of these orders the side that comes first is none that others can be chosen to touch.
        for order in ([1, 2, 0, 3, 5, 6, 4], list(range(7)), [6, 5, 4, 3, 2, 1, 0]):
            web = triangles().restricted(order)
            for seekers in range(5):
                self.check(web, seekers, 3)
        chance = random.Random(152)
        for _ in range(60):
            order = list(range(7))
            chance.shuffle(order)
            self.check(triangles().restricted(order), 2, 3)

    def test_like_decide(self):
        kinds = {True: 0, False: 0}
        for web in [*[web for web in small_webs() if len(web) < 5], *small_webs()[-6:], ring(5, 2), line(8), ring(6)]:
            for seekers in range(1, 9):
                game = Game(web, seekers, travel="fly", pace="swift")
                try:
                    paper = decide(game, most=20000)
                except TooMany:
                    continue
                found = bag_answer(web, seekers)
                kinds[isinstance(paper, Ranks)] += 1
                self.assertIs(isinstance(found, Bags), isinstance(paper, Ranks))
                if isinstance(found, Bags):
                    self.assertLessEqual(paper.rounds, bags_ranks(found).rounds)
                else:
                    self.assertTrue(all(standing in paper for standing in sides_lot(found)))
        self.assertGreater(min(kinds.values()), 30)

    def test_wrong(self):
        for seekers in (-1, 9, 10 ** 9):
            self.fails(BadNumber(seekers), bag_answer, line(3), seekers)
            self.fails(NotPlain(), bag_answer, oneway(3), seekers)
        self.fails(NotPlain(), bag_answer, web_of(2, 2, {(0, 0, 1), (0, 1, 0)}), 1)


class Least(Case):
    def test_known_numbers(self):
        some = [
            (line(1), 1), (line(2), 2), (line(8), 2), (ring(3), 3), (ring(8), 3), (full(8), 8), (full(5), 5),
            (Web(list("abcdefgh"), []), 1), (box(line(2), line(4)), 3), (box(line(2), box(line(2), line(2))), 4),
            (triangles(), 3),
        ]
        for web, number in some:
            self.assertEqual(least_bags(web).number, number)

    def test_every_web(self):
        for web in [*small_webs(), *large_webs(), triangles()]:
            found = self.keeps(least_bags, web)
            number = width(web)
            self.assertEqual((found.number, found.bags.size, found.sides.seekers), (number, number, number - 1))
            self.assertLessEqual(len(found.bags.bags), 10)
            self.assertEqual((found.bags.web, found.sides.web), (web, web))
            self.assertEqual(Bags(web, found.bags.bags, found.bags.links), found.bags)
            self.assertEqual(Sides(web, number - 1, found.sides.rows()), found.sides)

    def test_some_order_has_the_number(self):
        chance = random.Random(153)
        for web in [*small_webs(), *[some_plain(chance, 6, share) for share in (3, 4, 5, 6)]]:
            sizes = [bags_of(web, order).size for order in permutations(range(len(web)))]
            self.assertEqual(min(sizes), least_bags(web).number)

    def test_wrong(self):
        self.fails(NotPlain(), least_bags, oneway(3))
        self.fails(NotPlain(), least_bags, web_of(2, 2, {(0, 0, 1), (0, 1, 0)}))


if __name__ == "__main__":
    unittest.main()
