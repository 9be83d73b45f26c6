"""Points [35], [36] and [42]: trees of bags."""

import copy
import random
import unittest
from itertools import permutations

from helpers import Case, every_plain, full, line, oneway, ring, some_plain, web_of
from tagwebs.bags import Bags, bags_of
from tagwebs.errors import BadBags, BadNumber, NotPlain, TagError, UnknownPlace
from tagwebs.reaching import reach
from tagwebs.webs import Web

LINE = line(3)
PATH = [(0, 1), (1, 2)]


def star():
    """A tree of five bags: 0 - 1 - 2, and 1 - 3 - 4."""
    web = Web.tied(list("abcdef"), [("a", "b"), ("b", "c"), ("c", "d"), ("c", "e"), ("e", "f")])
    return Bags(web, [(0, 1), (1, 2), (2, 3), (2, 4), (4, 5)], [(1, 0), (1, 2), (3, 1), (3, 4)])


class Making(Case):
    def test_attributes(self):
        bags = self.holds(lambda held, links: Bags(LINE, held, links), [(0, 1), (1, 2)], [(1, 0)])
        self.assertEqual((bags.web, bags.bags, bags.links, bags.size), (LINE, ((0, 1), (1, 2)), ((1, 0),), 2))

    def test_copies(self):
        held, links = [(0, 1), (1, 2)], [(1, 0)]
        bags = Bags(LINE, held, links)
        held.append((0,))
        links.clear()
        self.assertEqual((bags.bags, bags.links), (((0, 1), (1, 2)), ((1, 0),)))

    def test_one_bag_and_empty_and_equal_bags(self):
        self.assertEqual(Bags(LINE, [(0, 1, 2)], []).size, 3)
        self.assertEqual(Bags(Web(["a"], []), [(0,)], []).size, 1)
        self.assertEqual(Bags(LINE, [(), (0, 1, 2), ()], PATH).size, 3)
        self.assertEqual(Bags(LINE, [(0, 1), (1, 2), (0, 1)], [(0, 1), (0, 2)]).size, 2)
        apart = Web(["a", "b"], [])
        self.assertEqual(Bags(apart, [(0,), (), (1,)], PATH).size, 1)

    def test_40_and_41_bags(self):
        many = [(0, 1, 2)] * 40
        links = [(at, at + 1) for at in range(39)]
        self.assertEqual(Bags(LINE, many, links).height(0, None), 40)
        self.fails(BadBags("bags", 0), Bags, LINE, [*many, (0, 1, 2)], [*links, (39, 40)])
        self.fails(BadBags("bags", 0), Bags, LINE, [], [])

    def test_bag(self):
        for wrong in [(1, 0), (0, 0), (0, 3), (-1, 0), (3,), (2, 1, 0)]:
            self.fails(BadBags("bag", 1), Bags, LINE, [(0, 1), wrong, (9,)], [(9, 9)])

    def test_link(self):
        for wrong in [(1, 1), (0, 3), (-1, 0), (3, 0), (0, 1), (1, 0), (0, 1, 2), (0,), ()]:
            self.fails(BadBags("link", 1), Bags, LINE, [(0, 1), (1, 2), (2,)], [(0, 1), wrong, (9, 9)])
        self.fails(BadBags("link", 2), Bags, LINE, [(0, 1), (1, 2), (2,)], [(0, 1), (2, 1), (2, 0)])

    def test_links(self):
        self.fails(BadBags("links", 0), Bags, LINE, [(0, 1), (1, 2)], [])
        self.fails(BadBags("links", 0), Bags, LINE, [(0, 1), (1, 2), (), ()], [(0, 1), (2, 3)])
        self.fails(BadBags("links", 0), Bags, LINE, [(0,), (1,), (2,)], [(1, 2)])

    def test_place(self):
        self.fails(BadBags("place", 2), Bags, LINE, [(0, 1)], [])
        self.fails(BadBags("place", 0), Bags, LINE, [(), ()], [(0, 1)])
        self.fails(BadBags("place", 1), Bags, LINE, [(0, 1), (2,), (1, 2)], PATH)
        self.fails(BadBags("place", 0), Bags, LINE, [(0, 1, 2), (1, 2), (0, 1)], PATH)
        self.assertEqual(Bags(LINE, [(0, 1, 2), (1, 2), (0, 1)], [(0, 1), (0, 2)]).size, 3)

    def test_passage(self):
        self.fails(BadBags("passage", 1), Bags, LINE, [(0, 1), (2,)], [(0, 1)])
        self.fails(BadBags("passage", 0), Bags, ring(4), [(0,), (1, 2, 3)], [(0, 1)])
        self.fails(BadBags("passage", 1), Bags, ring(4), [(0, 1), (1, 2, 3)], [(0, 1)])
        self.fails(BadBags("passage", 2), Bags, full(3), [(0, 1), (0, 2)], [(0, 1)])

    def test_order_of_checks(self):
        self.fails(NotPlain(), Bags, oneway(3), [], [])
        self.fails(NotPlain(), Bags, web_of(2, 2, {(0, 0, 1), (0, 1, 0)}), [(1, 0)], [(9, 9)])
        self.fails(BadBags("link", 0), Bags, LINE, [(0,), (0,)], [(0, 0)])
        self.fails(BadBags("links", 0), Bags, LINE, [(0,), (0,), ()], [(0, 1)])
        self.fails(BadBags("place", 1), Bags, LINE, [(0,), (2,)], [(0, 1)])

    def test_equal(self):
        bags = Bags(LINE, [(0, 1), (1, 2)], [(0, 1)])
        self.assertTrue(bags == Bags(line(3), ((0, 1), (1, 2)), ((0, 1),)))
        others = [
            Bags(LINE, [(0, 1), (1, 2)], [(1, 0)]), Bags(LINE, [(1, 2), (0, 1)], [(0, 1)]), Bags(LINE, [(0, 1, 2)], []),
            Bags(line(3, 2), [(0, 1), (1, 2)], [(0, 1)]), Bags(LINE.renamed(list("xyz")), [(0, 1), (1, 2)], [(0, 1)]), 7,
        ]
        for other in others:
            self.assertFalse(bags == other)

    def test_what_is_made_is_what_is_described(self):
        chance = random.Random(141)
        made = 0
        for _ in range(1500):
            web = some_plain(chance, 1 + chance.randrange(4), 2 + chance.randrange(6))
            count = 1 + chance.randrange(4)
            bags = [tuple(p for p in range(len(web)) if chance.randrange(3)) for _ in range(count)]
            links = [(chance.randrange(count), chance.randrange(count)) for _ in range(chance.choice([count - 1, count - 1, 2]))]
            made += self.check(web, bags, links)
        self.assertGreater(made, 100)

    def check(self, web, bags, links):
        """Whether the tree is as described, asked in another way: by growing groups of bags."""
        fine = all(a != b for a, b in links) and len(links) == len(bags) - 1 and self.joined(range(len(bags)), links)
        for place in range(len(web)):
            own = [at for at, bag in enumerate(bags) if place in bag]
            fine = fine and bool(own) and self.joined(own, links)
        for u in range(len(web)):
            for v in web.steps(u, 0):
                fine = fine and any(u in bag and v in bag for bag in bags)
        try:
            Bags(web, bags, links)
        except TagError as error:
            self.assertIs(type(error), BadBags)
            self.assertFalse(fine)
        else:
            self.assertTrue(fine)
        return fine

    def joined(self, own, links):
        group = {own[0]}
        for _ in own:
            group |= {b for a, b in links if a in group and b in own} | {a for a, b in links if b in group and a in own}
        return group == set(own)


class Paths(Case):
    def test_toward(self):
        bags = star()
        self.assertEqual([bags.toward(0, place) for place in range(6)], [None, None, 1, 1, 1, 1])
        self.assertEqual([bags.toward(1, place) for place in range(6)], [0, None, None, 2, 3, 3])
        self.assertEqual([bags.toward(4, place) for place in range(6)], [3, 3, 3, 3, None, None])

    def test_height(self):
        bags = star()
        self.assertEqual([bags.height(index, None) for index in range(5)], [4, 3, 4, 3, 4])
        self.assertEqual([bags.depth(index) for index in range(5)], [3, 2, 3, 2, 3])
        self.assertEqual([bags.height(1, 0), bags.height(1, 3), bags.height(3, 1), bags.height(0, 1), bags.height(3, 4)], [3, 2, 2, 1, 3])
        alone = Bags(LINE, [(0, 1, 2)], [])
        self.assertEqual((alone.height(0, None), alone.depth(0), alone.toward(0, 1)), (1, 0, None))

    def test_links_passed_in_both_directions(self):
        web = line(4)
        held = [(0, 1), (1, 2), (2, 3)]
        for links in [[(0, 1), (1, 2)], [(1, 0), (2, 1)], [(2, 1), (0, 1)], [(1, 2), (1, 0)]]:
            bags = Bags(web, held, links)
            self.assertEqual([bags.toward(0, 3), bags.toward(2, 0), bags.toward(1, 3), bags.toward(1, 0)], [1, 1, 2, 0])
            self.assertEqual([bags.height(0, None), bags.height(1, 0), bags.height(1, 2), bags.depth(1)], [3, 2, 2, 1])

    def test_all(self):
        chance = random.Random(142)
        for web in [some_plain(chance, 2 + chance.randrange(5), 5) for _ in range(25)]:
            order = list(range(len(web)))
            chance.shuffle(order)
            bags = bags_of(web, order)
            joined = {at: {b if a == at else a for a, b in bags.links if at in (a, b)} for at in range(len(order))}
            for at in range(len(order)):
                paths = self.paths(joined, [at])
                self.assertEqual(bags.height(at, None), max(len(path) for path in paths))
                self.assertEqual(bags.depth(at), max(len(path) for path in paths) - 1)
                for away in joined[at]:
                    self.assertEqual(bags.height(at, away), max(len(path) for path in paths if away not in path))
                for place in range(len(web)):
                    first = {path[1] for path in paths if len(path) > 1 and place in bags.bags[path[-1]]}
                    wanted = None if place in bags.bags[at] else first.pop()
                    self.assertEqual(bags.toward(at, place), wanted)

    def paths(self, joined, path):
        longer = [[*path, other] for other in joined[path[-1]] if other not in path]
        return [path, *[found for one in longer for found in self.paths(joined, one)]]

    def test_wrong(self):
        bags = star()
        before = copy.deepcopy(bags)
        for index in (-1, 5, 10 ** 9):
            self.fails(BadNumber(index), bags.toward, index, 99)
            self.fails(BadNumber(index), bags.height, index, 99)
            self.fails(BadNumber(index), bags.depth, index)
        for place in (-1, 6):
            self.fails(UnknownPlace(place), bags.toward, 0, place)
        for away in (0, 2, 3, 4, 5, -1):
            self.fails(BadNumber(away), bags.height, 0, away)
        self.fails(BadNumber(1), bags.height, 1, 1)
        self.assertEqual((bags, vars(bags)), (before, vars(before)))


class BagsOf(Case):
    def test_example(self):
        bags = bags_of(Web.tied(["a", "b", "c"], [("a", "b"), ("b", "c")]), [0, 1, 2])
        self.assertEqual([bags.bags, bags.links, bags.size, bags.toward(0, 2), bags.height(1, 0), bags.depth(1)], [
            ((0, 1), (1, 2), (2,)), ((0, 1), (1, 2)), 2, 1, 2, 1])

    def test_through_places_before(self):
        bags = self.holds(bags_of, line(4), [1, 2, 0, 3])
        self.assertEqual((bags.bags, bags.links), (((0, 1, 2), (0, 2, 3), (0, 3), (3,)), ((0, 1), (1, 2), (2, 3))))
        bags = bags_of(ring(4), [3, 1, 0, 2])
        self.assertEqual((bags.bags, bags.links), (((0, 2, 3), (0, 1, 2), (0, 2), (2,)), ((0, 2), (1, 2), (2, 3))))

    def test_without_passages(self):
        bags = bags_of(Web(list("abc"), []), [2, 0, 1])
        self.assertEqual((bags.bags, bags.links, bags.size), (((2,), (0,), (1,)), ((0, 1), (1, 2)), 1))
        alone = bags_of(Web(["a"], [], beats=2), [0])
        self.assertEqual((alone.bags, alone.links), (((0,),), ()))

    def test_a_place_that_meets_none_is_linked_to_the_next(self):
        web = Web.tied(list("abcd"), [("a", "b"), ("c", "d")])
        self.assertEqual(bags_of(web, [0, 2, 1, 3]).links, ((0, 2), (1, 3), (2, 3)))

    def test_all_orders(self):
        for count in (1, 2, 3, 4):
            for web in every_plain(count):
                for order in permutations(range(count)):
                    self.check(web, order)

    def test_orders_of_eight(self):
        chance = random.Random(143)
        for web in [ring(8), full(8), line(8), *[some_plain(chance, 8, 3) for _ in range(6)]]:
            order = list(range(8))
            chance.shuffle(order)
            self.check(web, order)

    def check(self, web, order):
        bags = bags_of(web, order)
        links = []
        for at, place in enumerate(order):
            later = order[at + 1:]
            met = []
            for other in later:
                barred = [q for q in later if q != other]
                if other in reach(web, 0, [place], barred):
                    met.append(other)
            self.assertEqual(bags.bags[at], tuple(sorted([place, *met])))
            if later:
                links.append((at, order.index(met[0]) if met else at + 1))
        self.assertEqual(bags.links, tuple(links))
        self.assertEqual(Bags(web, bags.bags, bags.links), bags)

    def test_wrong(self):
        self.fails(NotPlain(), bags_of, oneway(3), [9, 9])
        self.fails(BadNumber(0), bags_of, LINE, [3, 0, 1, 2])
        self.fails(BadNumber(0), bags_of, LINE, [-1, 0])
        self.fails(BadNumber(2), bags_of, LINE, [1, 0, 1, 9])
        self.fails(BadNumber(3), bags_of, LINE, [1, 0, 2, 2])
        self.fails(BadNumber(0), bags_of, LINE, [])
        self.fails(BadNumber(2), bags_of, LINE, (2, 1))


if __name__ == "__main__":
    unittest.main()
