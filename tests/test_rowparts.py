"""Point [53]: papers that come from rows, sides and shut families."""

import random
import unittest

from helpers import (
    Case, every_doorless, every_plain, full, line, oneway, ring, some_doorless, some_plain, subsets, web_of,
)
from tagwebs.bagging import bag_answer, least_bags
from tagwebs.bags import Bags
from tagwebs.clearing import least_row, row_answer
from tagwebs.errors import BadCarry, BadWeb, NotDoorless, NotPlain, UnknownPlace
from tagwebs.reaching import rim
from tagwebs.rowparts import carry_shut, cut_row, row_bags, sides_blocking
from tagwebs.rows import Row, row_of
from tagwebs.shuts import Blocking, Shut
from tagwebs.sides import Sides
from tagwebs.webs import Web
from test_bagparts import some_parts

DOORS = web_of(2, 2, {(0, 0, 1), (0, 1, 0)})


class RowBags(Case):
    def test_line(self):
        row = Row(line(3), [(0,), (0, 1), (1, 2)])
        bags = self.keeps(row_bags, row)
        self.assertEqual((bags.web, bags.bags, bags.links), (line(3), ((0,), (0, 1), (1, 2)), ((0, 1), (1, 2))))
        self.assertEqual(row_bags(Row(line(3), [(0, 1, 2)])).links, ())

    def test_all(self):
        for web in [*every_plain(4), ring(6), full(5, 2), some_plain(random.Random(221), 7, 4)]:
            row = least_row(web).row
            bags = row_bags(row)
            self.assertEqual(bags, Bags(web, row.bags, [(at, at + 1) for at in range(len(row.bags) - 1)]))
            self.assertLessEqual(least_bags(web).number, least_row(web).number)

    def test_wrong(self):
        self.fails(NotPlain(), row_bags, row_of(oneway(3), [0, 1, 2]))


class SidesBlocking(Case):
    def test_line(self):
        sides = Sides(line(3), 1, [((), (0, 1, 2)), ((0,), (1, 2)), ((1,), (2,)), ((2,), (0, 1))])
        blocking = self.keeps(sides_blocking, sides)
        self.assertIs(type(blocking), Blocking)
        self.assertEqual((blocking.web, blocking.seekers, list(blocking)), (line(3), 1, [(), (0,), (0, 1), (1,), (2,)]))
        self.assertEqual(list(sides_blocking(Sides(Web(["a", "b"], []), 0, [((), (1,))]))), [(), (0,)])

    def test_all(self):
        chance = random.Random(222)
        webs = [web for count in (1, 2, 3, 4, 5) for web in every_plain(count)]
        webs += [some_plain(chance, 6 + chance.randrange(2), share, 1 + share % 2) for share in (2, 3, 4, 5, 7)] + [ring(8)]
        for web in webs:
            for seekers in range(least_bags(web).number):
                sides = bag_answer(web, seekers)
                blocking = sides_blocking(sides)
                wanted = []
                for places in subsets(range(len(web))):
                    edge = rim(web, places)
                    if len(edge) <= seekers and not set(places) & set(sides.side(edge)):
                        wanted.append(places)
                self.assertEqual((list(blocking), blocking.web, blocking.seekers), (wanted, web, seekers))
                self.assertEqual(blocking, Blocking(web, seekers, wanted))


class CutRow(Case):
    def test_order(self):
        row = row_of(line(4), [0, 1, 2, 3])
        cut = self.holds(lambda places: cut_row(row, places), [3, 1, 2])
        self.assertEqual((cut.web, cut.bags), (line(4).restricted([3, 1, 2]), ((), (1,), (1, 2), (0, 2))))
        self.assertEqual(cut_row(row, [2]).bags, ((), (), (0,), (0,)))
        self.assertEqual(cut_row(row_of(ring(4), [0, 1, 2, 3]), (2, 0)).web, Web(["c", "a"], []))

    def test_all(self):
        chance = random.Random(223)
        for web in [*every_doorless(3), *[some_doorless(chance, 5, share, 1 + share % 2) for share in (1, 3, 5)], ring(6)]:
            order = list(range(len(web)))
            chance.shuffle(order)
            row = row_of(web, order)
            for places in some_parts(chance, web, 3):
                cut = cut_row(row, places)
                self.assertEqual(cut.web, web.restricted(places))
                self.assertEqual([{places[at] for at in bag} for bag in cut.bags], [set(bag) & set(places) for bag in row.bags])
                self.assertEqual(cut, Row(cut.web, cut.bags))

    def test_wrong(self):
        row = row_of(oneway(3), [0, 1, 2])
        self.fails(BadWeb("places", 0), cut_row, row, [])
        self.fails(UnknownPlace(3), cut_row, row, [0, 3, -1])
        self.fails(UnknownPlace(1), cut_row, row, [1, 0, 1, 7])


class CarryShut(Case):
    def test_one_place(self):
        small = Shut(Web(["z"], []), 0, [()])
        carried = self.holds(lambda places: carry_shut(web_of(2, 1, {(0, 0, 1)}), places, small), [1])
        # The place a is not in the part, and no passage leads into it.
        self.assertEqual((type(carried), carried.seekers, list(carried)), (Shut, 0, [(), (0,)]))
        blocking = Blocking(Web(["z"], []), 0, [()])
        self.assertEqual(list(carry_shut(Web(["a", "b"], []), [1], blocking)), [(), (0,)])

    def test_kinds(self):
        small = Blocking(line(2), 1, [(), (0,), (1,)])
        self.assertIs(type(carry_shut(line(3), [2, 1], small)), Blocking)
        self.assertIs(type(carry_shut(line(3), [2, 1], Shut(line(2), 1, [(), (0,), (1,)]))), Shut)
        mixed = Web(["a", "b", "c"], [("a", "b", "one", (0,)), ("b", "c", "two", (0,))])
        carried = carry_shut(mixed, [1, 2], small)
        self.assertEqual((type(carried), list(carried)), (Shut, [(), (0,), (0, 1), (0, 2), (1,), (2,)]))

    def test_names_beats_and_more_passages_do_not_matter(self):
        small = least_row(line(3, 2).renamed(list("xyz"))).shut
        carried = carry_shut(full(4), [2, 0, 3], small)
        self.assertEqual((carried.web, carried.seekers), (full(4), 1))
        self.fails(BadCarry("web"), carry_shut, line(4), [0, 2, 1], small)
        # A one-way passage has to be there in its direction.
        way = row_answer(web_of(2, 1, {(0, 0, 1)}), 0)
        self.assertEqual(carry_shut(web_of(3, 2, {(0, 2, 0), (1, 2, 0)}), [2, 0], way).seekers, 0)
        self.fails(BadCarry("web"), carry_shut, web_of(3, 2, {(0, 2, 0), (1, 2, 0)}), [0, 2], way)

    def test_all(self):
        chance = random.Random(224)
        webs = [*every_plain(4), *every_doorless(3), ring(6), *[some_plain(chance, 6, share, 2) for share in (3, 6)]]
        webs += [some_doorless(chance, 5, share, 1 + share % 2) for share in (1, 3, 5)]
        kinds = {Shut: 0, Blocking: 0}
        for web in webs:
            for places in some_parts(chance, web, 3):
                part = web.restricted(places)
                thin = part & some_plain(chance, len(places), 7, web.beats).renamed(part.places)
                for small in (part, thin):
                    for seekers in range(least_row(small).number):
                        kinds[self.check(web, places, row_answer(small, seekers))] += 1
        self.assertGreater(min(kinds.values()), 50)

    def check(self, web, places, shut):
        carried = carry_shut(web, places, shut)
        wanted = []
        for clean in subsets(range(len(web))):
            inside = tuple(at for at in range(len(places)) if places[at] in clean)
            if len(rim(web, clean)) <= shut.seekers and inside in shut:
                wanted.append(clean)
        kind = Blocking if type(shut) is Blocking and web.plain else Shut
        self.assertEqual((type(carried), carried.web, carried.seekers, list(carried)), (kind, web, shut.seekers, wanted))
        self.assertEqual(carried, kind(web, shut.seekers, wanted))
        return kind

    def test_wrong(self):
        shut = Blocking(line(2), 1, [(), (0,), (1,)])
        web = line(4)
        self.fails(NotDoorless(), carry_shut, DOORS, [], shut)
        self.fails(BadWeb("places", 0), carry_shut, web, [], shut)
        self.fails(UnknownPlace(4), carry_shut, web, [0, 4, 0], shut)
        self.fails(UnknownPlace(0), carry_shut, web, [0, 1, 0], shut)
        for places in ([0], [0, 1, 2], [0, 2], [3, 1]):
            self.fails(BadCarry("web"), carry_shut, web, places, shut)


if __name__ == "__main__":
    unittest.main()
