"""Points [44] and [46]: rows of bags."""

import random
import unittest
from itertools import permutations

from helpers import Case, every_doorless, every_plain, full, line, oneway, ring, some_doorless, web_of
from tagwebs.errors import BadNumber, BadRow, NotDoorless, TagError
from tagwebs.rows import Row, row_of
from tagwebs.webs import Web

LINE = line(3)
# From a to b only, and between b and c.
MIXED = Web(["a", "b", "c"], [("a", "b", "one", (0,)), ("b", "c", "two", (0,))])
DOORS = web_of(2, 2, {(0, 0, 1), (0, 1, 0)})


class Making(Case):
    def test_attributes(self):
        row = self.holds(lambda bags: Row(LINE, bags), [(0, 1), (1, 2)])
        self.assertEqual((row.web, row.bags, row.size), (LINE, ((0, 1), (1, 2)), 2))
        bags = [(0, 1), (1, 2)]
        row = Row(LINE, bags)
        bags.clear()
        self.assertEqual(row.bags, ((0, 1), (1, 2)))

    def test_one_way_passages(self):
        way = oneway(2)
        self.assertEqual([way.leads(0, 1, 0), way.leads(1, 0, 0)], [True, True])
        way = web_of(2, 1, {(0, 0, 1)})
        # The place a can be over before b comes, but not the other way round.
        self.assertEqual(Row(way, [(0,), (1,)]).size, 1)
        self.fails(BadRow("passage", 0), Row, way, [(1,), (0,)])
        self.fails(BadRow("passage", 0), Row, web_of(2, 1, {(0, 1, 0)}), [(0,), (1,)])
        self.assertEqual(Row(way, [(1,), (0, 1)]).size, 2)
        self.assertEqual(Row(oneway(3, 4), [(0,), (0, 1), (0, 2)]).size, 2)
        self.fails(BadRow("passage", 1), Row, oneway(3), [(0,), (1,), (2,)])

    def test_empty_and_equal_bags(self):
        self.assertEqual(Row(LINE, [(), (0, 1), (0, 1), (1, 2), ()]).size, 2)
        self.assertEqual(Row(Web(["a"], []), [(0,)]).size, 1)
        self.assertEqual(Row(Web(["a", "b"], []), [(1,), (), (0,)]).size, 1)

    def test_40_and_41_bags(self):
        self.assertEqual(Row(LINE, [(0, 1, 2)] * 40).clean(39), (0, 1, 2))
        self.fails(BadRow("bags", 0), Row, LINE, [(0, 1, 2)] * 41)
        self.fails(BadRow("bags", 0), Row, LINE, [])

    def test_bag(self):
        for wrong in [(1, 0), (0, 0), (0, 3), (-1, 0), (3,)]:
            self.fails(BadRow("bag", 1), Row, LINE, [(0, 1), wrong, (9,)])

    def test_place(self):
        self.fails(BadRow("place", 2), Row, LINE, [(0, 1)])
        self.fails(BadRow("place", 0), Row, LINE, [()])
        self.fails(BadRow("place", 1), Row, LINE, [(0, 1), (2,), (1, 2)])
        self.fails(BadRow("place", 1), Row, LINE, [(0, 1), (0, 2), (0, 2), (0, 1)])
        self.fails(BadRow("place", 0), Row, LINE, [(0, 1), (1, 2), (0,)])
        self.fails(BadRow("place", 1), Row, LINE, [(2,), (0,)])

    def test_passage(self):
        self.fails(BadRow("passage", 1), Row, LINE, [(0, 1), (2,)])
        self.fails(BadRow("passage", 0), Row, LINE, [(0,), (1, 2)])
        self.fails(BadRow("passage", 0), Row, LINE, [(1, 2), (0,)])
        # ties() of this web: a to b, b and c, in this order.
        self.fails(BadRow("passage", 0), Row, MIXED, [(1, 2), (0,)])
        self.fails(BadRow("passage", 1), Row, MIXED, [(0,), (1,), (2,)])
        self.fails(BadRow("passage", 1), Row, MIXED, [(0,), (2,), (1,)])
        self.assertEqual(Row(MIXED, [(0,), (1, 2)]).size, 2)

    def test_order_of_checks(self):
        self.fails(NotDoorless(), Row, DOORS, [])
        self.fails(BadRow("bag", 1), Row, LINE, [(0,), (9,)])
        self.fails(BadRow("place", 1), Row, LINE, [(2,), (0,)])

    def test_equal(self):
        row = Row(LINE, [(0, 1), (1, 2)])
        self.assertTrue(row == Row(line(3), ((0, 1), (1, 2))))
        for other in [Row(LINE, [(1, 2), (0, 1)]), Row(line(3, 2), [(0, 1), (1, 2)]), Row(LINE, [(0, 1), (1, 2), ()]), 5]:
            self.assertFalse(row == other)

    def test_clean(self):
        row = Row(line(4), [(0,), (0, 1), (1, 2), (2, 3)])
        self.assertEqual([row.clean(at) for at in range(4)], [(0,), (0, 1), (0, 1, 2), (0, 1, 2, 3)])
        for index in (-1, 4, 10 ** 9):
            self.fails(BadNumber(index), row.clean, index)

    def test_what_is_made_is_what_is_described(self):
        chance = random.Random(181)
        made = 0
        for at in range(2500):
            web = some_doorless(chance, 1 + chance.randrange(4), 1 + chance.randrange(4), 1 + at % 2)
            bags = [tuple(p for p in range(len(web)) if chance.randrange(3)) for _ in range(1 + chance.randrange(4))]
            made += self.check(web, bags)
        self.assertGreater(made, 200)

    def check(self, web, bags):
        own = [[at for at, bag in enumerate(bags) if place in bag] for place in range(len(web))]
        fine = all(those and all(at in those for at in range(min(those), max(those))) for those in own)
        for u in range(len(web)):
            for v in web.steps(u, 0):
                fine = fine and min(own[u]) <= max(own[v])
        try:
            Row(web, bags)
        except TagError as error:
            self.assertIs(type(error), BadRow)
            self.assertFalse(fine)
        else:
            self.assertTrue(fine)
        return fine


class RowOf(Case):
    def test_example(self):
        row = row_of(MIXED, [0, 2, 1])
        self.assertEqual([row.bags, row.size, row.clean(1)], [((0,), (2,), (1, 2)), 2, (0, 2)])

    def test_line(self):
        row = self.holds(row_of, line(4), [0, 1, 3, 2])
        self.assertEqual(row.bags, ((0,), (0, 1), (1, 3), (1, 2, 3)))
        self.assertEqual(row_of(Web(["a"], [], beats=3), [0]).bags, ((0,),))

    def test_all_orders(self):
        chance = random.Random(182)
        webs = [web for count in (1, 2, 3) for web in every_doorless(count)] + every_plain(4)
        webs += [some_doorless(chance, 4, share, 2) for share in (2, 4, 6)]
        for web in webs:
            for order in permutations(range(len(web))):
                self.check(web, order)

    def test_orders_of_eight(self):
        chance = random.Random(183)
        for web in [ring(8), full(8), oneway(8), *[some_doorless(chance, 8, share) for share in (1, 2, 4)]]:
            order = list(range(8))
            chance.shuffle(order)
            self.check(web, order)

    def check(self, web, order):
        row = row_of(web, order)
        for at, place in enumerate(order):
            later = order[at:]
            kept = [p for p in order[:at] if any(web.leads(q, p, 0) for q in later)]
            self.assertEqual(row.bags[at], tuple(sorted([place, *kept])))
            self.assertEqual(row.clean(at), tuple(sorted(order[: at + 1])))
        self.assertEqual(Row(web, row.bags), row)

    def test_some_order_has_the_least_size_of_any_row(self):
        for web in [web for count in (1, 2, 3) for web in every_doorless(count)]:
            count = len(web)
            least = min(row_of(web, order).size for order in permutations(range(count)))
            self.assertEqual(least, self.least_of_all_rows(web))

    def least_of_all_rows(self, web):
        """Over all rows: each place gets a first and a last bag out of as many bags as two for each place."""
        count = len(web)
        spans = [(a, b) for a in range(2 * count) for b in range(a, 2 * count)]
        found = [[]]
        for place in range(count):
            longer = []
            for held in found:
                for span in spans:
                    grown = [*held, span]
                    if all(grown[u][0] <= grown[v][1] for u in range(place + 1) for v in range(place + 1) if web.leads(u, v, 0)):
                        longer.append(grown)
            found = longer
        return min(max(sum(a <= at <= b for a, b in held) for at in range(2 * count)) for held in found)

    def test_wrong(self):
        self.fails(NotDoorless(), row_of, DOORS, [9])
        self.fails(BadNumber(0), row_of, LINE, [3, 0, 1])
        self.fails(BadNumber(1), row_of, LINE, [0, -1, 1])
        self.fails(BadNumber(2), row_of, LINE, [1, 0, 1, 9])
        self.fails(BadNumber(3), row_of, LINE, [1, 0, 2, 1])
        self.fails(BadNumber(0), row_of, LINE, [])
        self.fails(BadNumber(2), row_of, LINE, (2, 1))


if __name__ == "__main__":
    unittest.main()
