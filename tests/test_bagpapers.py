"""Points [37] and [39]: the papers of bags and of sides."""

import random
import unittest

from helpers import Case, every_plain, full, line, ring, some_plain
from tagwebs.bagging import bag_answer, least_bags
from tagwebs.bagpapers import bags_ranks, sides_lot
from tagwebs.bags import Bags, bags_of
from tagwebs.errors import BadCarry, BadNumber
from tagwebs.games import Game
from tagwebs.papers import Lot, Ranks
from tagwebs.sides import Sides
from tagwebs.webs import Web


def game_of(web, seekers):
    return Game(web, seekers, travel="fly", pace="swift")


def trees():
    """Trees of bags of many kinds: with equal, empty and useless bags."""
    chance = random.Random(161)
    found = []
    webs = [*every_plain(3), *every_plain(4), ring(5, 2), line(6), *[some_plain(chance, 6, share) for share in (2, 4, 6)]]
    for web in webs:
        order = list(range(len(web)))
        chance.shuffle(order)
        bags = bags_of(web, order)
        found.append(bags)
        # More bags, each hung on to some bag with some of its places.
        held, links = list(bags.bags), list(bags.links)
        for _ in range(4):
            near = chance.randrange(len(held))
            kept = tuple(place for place in held[near] if chance.randrange(3))
            links.append(chance.choice([(near, len(held)), (len(held), near)]))
            held.append(kept)
        found.append(Bags(web, held, links))
    return found


class BagsRanks(Case):
    def test_line(self):
        bags = bags_of(line(3), [0, 1, 2])
        ranks = self.keeps(bags_ranks, bags)
        self.assertEqual((ranks.game, ranks.first, ranks.rounds), (game_of(line(3), 2), (0, 1), 2))
        self.assertEqual([(s[1][0], s[2][0], rank, post) for s, rank, post in ranks.rows()], [
            ((0, 1), 2, 2, (1, 2)), ((1, 2), 0, 1, (0, 1)), ((2,), 0, 2, (1, 2)), ((2,), 1, 2, (1, 2))])
        self.assertEqual([bags_ranks(bags, root).rounds for root in range(3)], [2, 1, 2])

    def test_one_bag(self):
        ranks = bags_ranks(Bags(line(3), [(0, 1, 2)], []))
        self.assertEqual((ranks.first, ranks.rows(), ranks.rounds, ranks.game.seekers), ((0, 1, 2), [], 0, 3))

    def test_empty_bags(self):
        apart = Web(["a", "b"], [], beats=2)
        ranks = bags_ranks(Bags(apart, [(0,), (), (1,)], [(0, 1), (1, 2)]), 1)
        self.assertEqual((ranks.first, ranks.rounds), ((), 1))
        self.assertEqual(ranks.rows()[:4], [
            ((0, ((),), (0,)), 1, (0,)), ((0, ((),), (1,)), 1, (1,)), ((0, ((0,),), (1,)), 2, ()), ((0, ((1,),), (0,)), 2, ())])
        self.assertEqual(len(ranks), 8)

    def test_equal_bags(self):
        web = line(5)
        held = [(0, 1), (1, 2), (2, 3), (3, 4), (1, 2)]
        # The bag (1, 2) stands at two places: next to the end and in the middle.
        first = bags_ranks(Bags(web, held, [(0, 4), (4, 1), (1, 2), (2, 3)]))
        self.assertEqual([first.rank((0, ((1, 2),), (r,))) for r in (0, 3, 4)], [1, 2, 2])
        self.assertEqual([first.send((0, ((1, 2),), (r,))) for r in (0, 3, 4)], [(0, 1), (2, 3), (2, 3)])
        self.assertEqual((len(first), first.rounds), (12, 4))

    def test_least_index_of_equal_ways(self):
        # The two empty bags are as far from the end on the other side as each other.
        bags = Bags(Web(list("abc"), []), [(), (0, 2), (1, 2), ()], [(0, 2), (1, 2), (1, 3)])
        ranks = bags_ranks(bags)
        self.assertEqual([(ranks.rank((0, ((),), (r,))), ranks.send((0, ((),), (r,)))) for r in range(3)], [(3, (1, 2))] * 3)
        turned = Bags(bags.web, [(), (0, 2), (1, 2), ()], [(3, 2), (1, 2), (1, 0)])
        self.assertEqual(bags_ranks(turned).send((0, ((),), (2,))), (0, 2))

    def both_ways(self, bags, bag, r):
        """The rank and post of a row, and those that the words of the point give."""
        ways = []
        for index, same in enumerate(bags.bags):
            if same == bag:
                ahead = bags.toward(index, r)
                ways.append((bags.height(ahead, index), index, bags.bags[ahead]))
        height, _, post = sorted(ways)[0]
        ranks = bags_ranks(bags)
        standing = (0, (bag,), (r,))
        return (ranks.rank(standing), ranks.send(standing)), (height, post)

    def test_roots(self):
        for bags in trees():
            for root in range(len(bags.bags)):
                ranks = bags_ranks(bags, root)
                self.assertEqual((ranks.first, ranks.game), (bags.bags[root], game_of(bags.web, bags.size)))
                self.assertLessEqual(ranks.rounds, bags.depth(root))
            self.assertEqual(bags_ranks(bags), bags_ranks(bags, 0))

    def test_rows(self):
        for bags in trees():
            ranks = bags_ranks(bags, len(bags.bags) - 1)
            count = len(bags.web)
            wanted = [
                (beat, (bag,), (r,)) for beat in range(bags.web.beats) for bag in set(bags.bags)
                for r in range(count) if r not in bag
            ]
            self.assertEqual(list(ranks), sorted(wanted))
            for bag in set(bags.bags):
                for r in range(count):
                    if r not in bag:
                        self.assertEqual(*self.both_ways(bags, bag, r))
            self.assertEqual(ranks, Ranks(ranks.game, ranks.first, ranks.rows()))

    def test_wrong(self):
        bags = bags_of(line(3), [0, 1, 2])
        for root in (-1, 3, 10 ** 9):
            self.fails(BadNumber(root), bags_ranks, bags, root)


class SidesLot(Case):
    def test_ring(self):
        rows = [((), (0, 1, 2)), ((0,), (1, 2)), ((1,), (0, 2)), ((2,), (0, 1))]
        lot = self.keeps(sides_lot, Sides(ring(3), 1, rows))
        self.assertEqual(lot.game, game_of(ring(3), 1))
        self.assertEqual(lot.rows(), [(0, (post,), (r,)) for post, side in rows for r in side])
        self.assertEqual(len(sides_lot(Sides(ring(3, 4), 1, rows))), 36)

    def test_rows(self):
        chance = random.Random(162)
        webs = [*every_plain(4), ring(5, 2), full(5), *[some_plain(chance, 6, share) for share in (3, 5, 7)]]
        for web in webs:
            for seekers in range(1, least_bags(web).number):
                sides = bag_answer(web, seekers)
                lot = sides_lot(sides)
                wanted = [(beat, (post,), (r,)) for beat in range(web.beats) for post, side in sides.rows() for r in side]
                self.assertEqual((lot.game, lot.rows()), (game_of(web, seekers), sorted(wanted)))
                self.assertEqual(lot, Lot(lot.game, lot.rows()))

    def test_webs_of_eight(self):
        for web in [ring(8), some_plain(random.Random(163), 8, 4)]:
            sides = least_bags(web).sides
            self.assertEqual(len(sides_lot(sides)), sum(len(side) for _, side in sides.rows()))

    def test_wrong(self):
        self.fails(BadCarry("seekers"), sides_lot, Sides(line(2), 0, [((), (0, 1))]))
        self.fails(BadCarry("seekers"), sides_lot, least_bags(Web(["a"], [])).sides)


if __name__ == "__main__":
    unittest.main()
