"""Point [43]: bags and sides of parts of webs."""

import random
import unittest

from helpers import Case, every_plain, full, line, oneway, ring, some_plain, subsets
from tagwebs.bagging import bag_answer, least_bags
from tagwebs.bagparts import carry_sides, cut_bags
from tagwebs.bags import Bags, bags_of
from tagwebs.errors import BadCarry, BadWeb, NotPlain, UnknownPlace
from tagwebs.reaching import pieces
from tagwebs.sides import Sides
from tagwebs.webs import Web


def some_parts(chance, web, number):
    """Lists of different places of a web, in any order."""
    parts = [list(range(len(web))), list(range(len(web)))[::-1]]
    for _ in range(number):
        order = list(range(len(web)))
        chance.shuffle(order)
        parts.append(order[: 1 + chance.randrange(len(web))])
    return parts


class CutBags(Case):
    def test_order(self):
        bags = bags_of(line(4), [0, 1, 2, 3])
        cut = self.holds(lambda places: cut_bags(bags, places), [3, 1, 2])
        self.assertEqual((cut.web, cut.bags, cut.links), (line(4).restricted([3, 1, 2]), ((1,), (1, 2), (0, 2), (0,)), bags.links))

    def test_one_place(self):
        cut = cut_bags(bags_of(line(4), [0, 1, 2, 3]), [2])
        self.assertEqual((cut.web.places, cut.bags, cut.size), (("c",), ((), (0,), (0,), ()), 1))

    def test_several_pieces(self):
        cut = cut_bags(bags_of(ring(4), [0, 1, 2, 3]), (0, 2))
        self.assertEqual((cut.web, cut.bags), (Web(["a", "c"], []), ((0,), (1,), (1,), ())))

    def test_all(self):
        chance = random.Random(171)
        for web in [*every_plain(4), ring(5, 3), *[some_plain(chance, 7, share) for share in (2, 4, 6)]]:
            order = list(range(len(web)))
            chance.shuffle(order)
            bags = bags_of(web, order)
            for places in some_parts(chance, web, 4):
                cut = cut_bags(bags, places)
                self.assertEqual(cut.web, web.restricted(places))
                self.assertEqual(cut.links, bags.links)
                self.assertEqual([{places[at] for at in bag} for bag in cut.bags], [set(bag) & set(places) for bag in bags.bags])
                self.assertEqual(Bags(cut.web, cut.bags, cut.links), cut)
                self.assertLessEqual(least_bags(cut.web).number, least_bags(web).number)

    def test_wrong(self):
        bags = bags_of(line(3), [0, 1, 2])
        self.fails(BadWeb("places", 0), cut_bags, bags, [])
        self.fails(UnknownPlace(3), cut_bags, bags, [0, 3, -1])
        self.fails(UnknownPlace(1), cut_bags, bags, [1, 0, 1, 7])


class CarrySides(Case):
    def test_one_place(self):
        small = Sides(Web(["z"], []), 0, [((), (0,))])
        carried = self.holds(lambda places: carry_sides(Web(["a", "b"], []), places, small), [1])
        self.assertEqual((carried.web, carried.seekers, carried.rows()), (Web(["a", "b"], []), 0, [((), (1,))]))
        self.assertEqual(carry_sides(line(3), [1], small).rows(), [((), (0, 1, 2))])

    def test_posts_outside_of_the_part(self):
        small = Sides(ring(3), 1, [((), (0, 1, 2)), ((0,), (1, 2)), ((1,), (0, 2)), ((2,), (0, 1))])
        web = Web.tied(list("abcd"), [("a", "b"), ("b", "c"), ("c", "d"), ("d", "b")])
        carried = carry_sides(web, [3, 1, 2], small)
        self.assertEqual(carried.rows(), [
            ((), (0, 1, 2, 3)), ((0,), (1, 2, 3)), ((1,), (2, 3)), ((2,), (0, 1, 3)), ((3,), (0, 1, 2))])

    def test_only_passages_of_the_small_web_count(self):
        # The web has more passages, other names and other beats than that of the sides.
        small = least_bags(line(3).renamed(list("xyz"))).sides
        carried = carry_sides(full(4, 2), [2, 0, 3], small)
        self.assertEqual((carried.seekers, carried.side((0,))), (1, (1, 2, 3)))
        self.fails(BadCarry("web"), carry_sides, line(4), [0, 2, 1], small)
        self.assertEqual(carry_sides(line(4), [3, 2, 1], small).seekers, 1)

    def test_all(self):
        chance = random.Random(172)
        for web in [*every_plain(4), *[some_plain(chance, 6, share) for share in (3, 5, 7)], ring(6), ring(5, 2)]:
            for places in some_parts(chance, web, 3):
                part = web.restricted(places)
                thin = part & some_plain(chance, len(places), 7, web.beats).renamed(part.places)
                for small in (part, thin, part.renamed(Web.letters(len(places))).unrolled(1)):
                    for seekers in range(least_bags(small).number):
                        self.check(web, places, bag_answer(small, seekers))

    def check(self, web, places, sides):
        carried = carry_sides(web, places, sides)
        rows = []
        for post in subsets(range(len(web)), sides.seekers):
            inside = tuple(at for at in range(len(places)) if places[at] in post)
            old = {places[at] for at in sides.side(inside)}
            rows.append((post, [piece for piece in pieces(web, post) if old <= set(piece)][0]))
        self.assertEqual((carried.web, carried.seekers, carried.rows()), (web, sides.seekers, rows))
        self.assertEqual(Sides(web, sides.seekers, rows), carried)

    def test_wrong(self):
        sides = Sides(line(2), 1, [((), (0, 1)), ((0,), (1,)), ((1,), (0,))])
        web = line(4)
        self.fails(NotPlain(), carry_sides, oneway(3), [], sides)
        self.fails(BadWeb("places", 0), carry_sides, web, [], sides)
        self.fails(UnknownPlace(4), carry_sides, web, [0, 4, 0], sides)
        self.fails(UnknownPlace(0), carry_sides, web, [0, 1, 0], sides)
        for places in ([0], [0, 1, 2], [0, 2], [3, 1]):
            self.fails(BadCarry("web"), carry_sides, web, places, sides)
        self.assertEqual(carry_sides(web, [3, 2], sides).seekers, 1)


if __name__ == "__main__":
    unittest.main()
