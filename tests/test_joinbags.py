"""Points [61] and [62]: bags and sides of joined webs."""

import random
import unittest

from helpers import Case, full, joins_of, line, oneway, renamed, ring, some_joins, some_plain, web_of
from tagwebs.bagging import bag_answer, least_bags
from tagwebs.bagparts import carry_sides
from tagwebs.bags import Bags, bags_of
from tagwebs.errors import BadCarry, BadNumber, NotPlain
from tagwebs.joinbags import join_bags, join_sides
from tagwebs.joins import Join
from tagwebs.reaching import pieces
from tagwebs.sides import Sides
from tagwebs.webs import Web

KINDS = ("apart", "hung", "tied", "crossed")


def plain_joins(number=25):
    """Joins of plain webs of all kinds."""
    chance = random.Random(311)
    joins = joins_of(ring(4), ring(4), 1, 2) + joins_of(Web(["a"], []), Web(["a"], [])) + joins_of(line(2, 3), full(3, 3))
    return joins + some_joins(chance, lambda count, share, beats: some_plain(chance, count, share, beats), number, 4)


def many_bags(web, number):
    """A Bags of the web with so many bags, an empty one among them."""
    full_bag = tuple(range(len(web)))
    bags = [(), *[full_bag] * (number - 1)] if number > 1 else [full_bag]
    return Bags(web, bags, [(at, at + 1) for at in range(number - 1)])


def joined_size(join, first, second):
    """The size that point [61] tells."""
    if join.kind == "crossed":
        return min(first.size + len(join.second), second.size + len(join.first))
    return max(first.size, second.size, 2 if join.kind == "tied" else 0)


def crossed_papers(join, seekers):
    """The papers of the two webs that join_sides takes for a crossed join, as far as there are any."""
    rest = (seekers - len(join.second), seekers - len(join.first))
    return [None if many < 0 else bag_answer(web, many) for web, many in zip((join.first, join.second), rest)]


class JoinBags(Case):
    def test_kinds(self):
        first, second = bags_of(line(2), [0, 1]), bags_of(renamed(ring(3)), [0, 1, 2])
        for join in joins_of(line(2), ring(3), 1, 2):
            bags = self.keeps(join_bags, join, first, second)
            self.assertEqual((bags.web, bags.size), (join.web, {"crossed": 5}.get(join.kind, 3)))

    def test_all(self):
        chance = random.Random(312)
        seen = []
        for join in plain_joins(60):
            orders = [chance.sample(range(len(web)), len(web)) for web in (join.first, join.second)]
            papers = [(bags_of(join.first, orders[0]), bags_of(join.second, orders[1]))]
            papers.append((least_bags(join.first).bags, many_bags(join.second, 1 + chance.randrange(9))))
            for first, second in papers:
                bags = self.keeps(join_bags, join, first, second)
                seen.append(join.kind)
                self.assertIs(type(bags), Bags)
                self.assertEqual((bags.web, bags.size), (join.web, joined_size(join, first, second)))
                self.assertEqual(bags, Bags(join.web, bags.bags, bags.links))
                self.assertLessEqual(len(bags.bags), len(first.bags) + len(second.bags) + 1)
        self.assertGreater(min(seen.count(kind) for kind in KINDS), 20)

    def test_two_webs_without_passages(self):
        # Tied together, they get one passage, for which a bag of two places is needed.
        join = Join.tied(Web(["a", "b"], []), 1, Web(["c"], []), 0)
        bags = join_bags(join, bags_of(join.first, [0, 1]), bags_of(join.second, [0]))
        self.assertEqual(bags.size, 2)

    def test_the_lesser_size_of_crossed_webs(self):
        for first, second in [(line(2), Web(["s", "t", "u"], [])), (Web(["a", "b", "c"], []), renamed(line(2)))]:
            join = Join.crossed(first, second)
            sizes = (least_bags(first).number, least_bags(second).number)
            wanted = min(sizes[0] + len(second), sizes[1] + len(first))
            self.assertEqual((join_bags(join, least_bags(first).bags, least_bags(second).bags).size, wanted), (3, 3))

    def test_most_bags(self):
        for join in joins_of(line(2), ring(3), 1, 2):
            for many in (1, 15, 29):
                first, second = many_bags(join.first, many), many_bags(join.second, 30 - many)
                bags = join_bags(join, first, second)
                self.assertEqual(bags.size, joined_size(join, first, second))
                self.assertLessEqual(len(bags.bags), 31)
                self.fails(BadCarry("bags"), join_bags, join, first, many_bags(join.second, 31 - many))
            self.fails(BadCarry("bags"), join_bags, join, many_bags(join.first, 40), many_bags(join.second, 40))

    def test_wrong(self):
        bags = bags_of(line(2), [0, 1])
        other = bags_of(renamed(line(2)), [0, 1])
        for join in joins_of(line(2), line(2)):
            self.fails(BadCarry("first"), join_bags, join, other, bags)
            self.fails(BadCarry("first"), join_bags, join, many_bags(ring(3), 31), many_bags(ring(3), 31))
            self.fails(BadCarry("second"), join_bags, join, bags, bags)
            self.fails(BadCarry("second"), join_bags, join, many_bags(line(2), 31), many_bags(line(2), 31))
            self.fails(BadCarry("second"), join_bags, join, bags, bags_of(renamed(line(2, 2)), [0, 1]))
        for join in [*joins_of(line(2), oneway(3)), *joins_of(web_of(2, 2, {(0, 0, 1), (0, 1, 0)}), line(3, 2))]:
            self.fails(NotPlain(), join_bags, join, many_bags(line(3), 31), many_bags(line(3), 31))


class JoinSides(Case):
    def test_one_of_two(self):
        found = 0
        for join in plain_joins():
            if join.kind == "crossed":
                continue
            for seekers in range(least_bags(join.first).number):
                sides = bag_answer(join.first, seekers)
                self.accepted(join, seekers, self.keeps(join_sides, join, seekers, sides, None))
                self.assertEqual(join_sides(join, seekers, sides, None), carry_sides(join.web, join.firsts, sides))
                self.fails(BadCarry("first"), join_sides, join, seekers, sides, sides)
            for seekers in range(least_bags(join.second).number):
                found += 1
                sides = bag_answer(join.second, seekers)
                self.accepted(join, seekers, join_sides(join, seekers, None, sides))
                self.assertEqual(join_sides(join, seekers, None, sides), carry_sides(join.web, join.seconds, sides))
        self.assertGreater(found, 60)

    def accepted(self, join, seekers, sides):
        self.assertEqual((type(sides), sides.web, sides.seekers), (Sides, join.web, seekers))
        self.assertEqual(Sides(join.web, seekers, sides.rows()), sides)

    def test_crossed(self):
        kinds = {}
        for join in [join for join in plain_joins(40) if join.kind == "crossed"]:
            number = least_bags(join.web).number
            for seekers in range(9):
                first, second = crossed_papers(join, seekers)
                if seekers < number:
                    sides = self.keeps(join_sides, join, seekers, first, second)
                    self.accepted(join, seekers, sides)
                    kinds[(first is None, second is None)] = True
                    for post, side in sides.rows():
                        self.assertEqual(side, self.side_of(join, post, first, second))
        self.assertEqual(len(kinds), 4)

    def side_of(self, join, post, first, second):
        """The side that point [62] tells."""
        if all(place in post for place in join.seconds):
            left = first.side(tuple(place for place in range(len(join.first)) if join.of_first(place) in post))
            return tuple(join.of_first(place) for place in left)
        if all(place in post for place in join.firsts):
            left = second.side(tuple(place for place in range(len(join.second)) if join.of_second(place) in post))
            return tuple(join.of_second(place) for place in left)
        self.assertEqual(len(pieces(join.web, post)), 1)
        return pieces(join.web, post)[0]

    def test_no_seekers_and_eight(self):
        one = Web(["a"], [])
        none = Sides(one, 0, [((), (0,))])
        other = Sides(renamed(one), 0, [((), (0,))])
        for join in joins_of(one, one):
            if join.kind == "crossed":
                self.assertEqual(join_sides(join, 0, None, None).rows(), [((), (0, 1))])
                self.fails(BadCarry("first"), join_sides, join, 8, None, None)
                self.fails(BadCarry("first"), join_sides, join, 8, none, other)
                self.fails(BadCarry("first"), join_sides, join, 0, none, None)
                self.fails(BadCarry("second"), join_sides, join, 0, None, other)
                # One place is of each web, so one seeker leaves one paper for no seekers to each.
                self.assertEqual(join_sides(join, 1, none, other).rows(), [((), (0, 1)), ((0,), (1,)), ((1,), (0,))])
                self.fails(BadCarry("first"), join_sides, join, 1, None, other)
                self.fails(BadCarry("second"), join_sides, join, 1, none, None)
                continue
            self.assertEqual(join_sides(join, 0, none, None).side(())[0], 0)
            self.fails(BadCarry("first"), join_sides, join, 8, none, None)
            self.fails(BadCarry("second"), join_sides, join, 8, None, other)

    def test_wrong(self):
        sides = bag_answer(line(3), 1)
        other = bag_answer(renamed(ring(3)), 1)
        for join in joins_of(line(3), ring(3), 1, 1):
            for seekers in (-1, 9, 10 ** 9):
                self.fails(BadNumber(seekers), join_sides, join, seekers, None, None)
                self.fails(BadNumber(seekers), join_sides, join, seekers, other, sides)
            if join.kind == "crossed":
                self.fails(BadCarry("first"), join_sides, join, 1, sides, None)
                self.fails(BadCarry("second"), join_sides, join, 1, None, other)
                self.fails(BadCarry("first"), join_sides, join, 4, None, other)
                self.fails(BadCarry("first"), join_sides, join, 4, bag_answer(line(3), 0), sides)
                self.fails(BadCarry("second"), join_sides, join, 4, sides, sides)
                self.assertEqual(join_sides(join, 4, sides, other).seekers, 4)
                continue
            self.fails(BadCarry("first"), join_sides, join, 1, None, None)
            self.fails(BadCarry("first"), join_sides, join, 1, sides, other)
            self.fails(BadCarry("first"), join_sides, join, 1, other, None)
            self.fails(BadCarry("first"), join_sides, join, 0, sides, None)
            self.fails(BadCarry("second"), join_sides, join, 1, None, sides)
            self.fails(BadCarry("second"), join_sides, join, 2, None, other)
            self.assertEqual(join_sides(join, 1, None, other).seekers, 1)
        for join in joins_of(line(3), oneway(3)):
            self.fails(NotPlain(), join_sides, join, -1, None, None)


if __name__ == "__main__":
    unittest.main()
