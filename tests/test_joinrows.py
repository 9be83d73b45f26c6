"""Points [61] and [62]: rows and shut families of joined webs."""

import random
import unittest

from helpers import Case, full, joins_of, line, oneway, renamed, ring, some_doorless, some_joins, some_plain, subsets, web_of
from tagwebs.clearing import least_row, row_answer
from tagwebs.errors import BadCarry, BadNumber, NotDoorless
from tagwebs.joinrows import join_row, join_shut
from tagwebs.joins import Join
from tagwebs.rowparts import carry_shut
from tagwebs.rows import Row, row_of
from tagwebs.shuts import Blocking, Shut
from tagwebs.webs import Web

KINDS = ("apart", "hung", "tied", "crossed")
DOORS = web_of(2, 2, {(0, 0, 1), (0, 1, 0)})


def doorless_joins(number=15):
    """Joins of doorless webs of all kinds, some of them plain."""
    chance = random.Random(321)
    joins = joins_of(oneway(4), ring(4), 1, 2) + joins_of(Web(["a"], []), Web(["a"], [])) + joins_of(line(2, 3), full(3, 3))
    joins += some_joins(chance, lambda count, share, beats: some_doorless(chance, count, share, beats), number)
    return joins + some_joins(chance, lambda count, share, beats: some_plain(chance, count, share, beats), number)


def many_bags(web, number):
    """A Row of the web with so many bags, an empty one among them."""
    return Row(web, [*[tuple(range(len(web)))] * (number - 1), ()] if number > 1 else [tuple(range(len(web)))])


class JoinRow(Case):
    def test_kinds(self):
        first, second = row_of(line(2), [0, 1]), row_of(renamed(ring(3)), [0, 1, 2])
        for join in joins_of(line(2), ring(3), 1, 2):
            row = self.keeps(join_row, join, first, second)
            self.check(join, first, second, row)
        join = Join.apart(line(2), renamed(line(2)))
        row = join_row(join, row_of(line(2), [1, 0]), row_of(renamed(line(2)), [0, 1]))
        self.assertEqual((row.size, row.clean(len(row.bags) - 1)), (2, (0, 1, 2, 3)))

    def check(self, join, first, second, row):
        self.assertEqual((type(row), row.web), (Row, join.web))
        self.assertEqual(row, Row(join.web, row.bags))
        self.assertLessEqual(len(row.bags), len(first.bags) + len(second.bags) + 1)
        if join.kind == "apart":
            self.assertEqual(row.size, max(first.size, second.size))
        elif join.kind == "crossed":
            self.assertEqual(row.size, min(first.size + len(join.second), second.size + len(join.first)))
        else:
            self.assertLessEqual(row.size, 1 + max(first.size, second.size))

    def test_all(self):
        chance = random.Random(322)
        seen = []
        for join in doorless_joins(40):
            orders = [chance.sample(range(len(web)), len(web)) for web in (join.first, join.second)]
            papers = [(row_of(join.first, orders[0]), row_of(join.second, orders[1]))]
            papers.append((least_row(join.first).row, least_row(join.second).row))
            papers.append((many_bags(join.first, 1 + chance.randrange(9)), row_of(join.second, orders[1])))
            for first, second in papers:
                seen.append((join.kind, join.web.plain))
                self.check(join, first, second, self.keeps(join_row, join, first, second))
        self.assertGreater(min(seen.count((kind, plain)) for kind in KINDS for plain in (True, False)), 20)

    def test_most_bags(self):
        for join in joins_of(line(2), oneway(3), 1, 2):
            for many in (1, 15, 29):
                first, second = many_bags(join.first, many), many_bags(join.second, 30 - many)
                self.check(join, first, second, join_row(join, first, second))
                self.fails(BadCarry("bags"), join_row, join, first, many_bags(join.second, 31 - many))
            self.fails(BadCarry("bags"), join_row, join, many_bags(join.first, 40), many_bags(join.second, 40))

    def test_wrong(self):
        row, other = row_of(line(2), [0, 1]), row_of(renamed(line(2)), [0, 1])
        for join in joins_of(line(2), line(2)):
            self.fails(BadCarry("first"), join_row, join, other, row)
            self.fails(BadCarry("first"), join_row, join, many_bags(ring(3), 31), many_bags(ring(3), 31))
            self.fails(BadCarry("second"), join_row, join, row, row)
            self.fails(BadCarry("second"), join_row, join, many_bags(line(2), 31), many_bags(line(2), 31))
        for join in joins_of(line(3, 2), DOORS):
            self.fails(NotDoorless(), join_row, join, row, many_bags(line(3), 31))


class JoinShut(Case):
    def test_one_of_two(self):
        kinds = {Shut: 0, Blocking: 0}
        for join in doorless_joins():
            if join.kind == "crossed":
                continue
            for at, (web, numbers) in enumerate([(join.first, join.firsts), (join.second, join.seconds)]):
                for seekers in range(least_row(web).number):
                    shut = row_answer(web, seekers)
                    halves = (shut, None) if at == 0 else (None, shut)
                    found = self.keeps(join_shut, join, seekers, *halves)
                    kinds[type(found)] += 1
                    wanted = carry_shut(join.web, numbers, shut)
                    self.assertEqual((type(found), list(found)), (type(wanted), list(wanted)))
                    self.accepted(join, seekers, found, (shut,))
        self.assertGreater(min(kinds.values()), 20)

    def accepted(self, join, seekers, found, passed):
        kind = Blocking if join.web.plain and all(type(one) is Blocking for one in passed) else Shut
        self.assertEqual((type(found), found.web, found.seekers), (kind, join.web, seekers))
        self.assertEqual(kind(join.web, seekers, list(found)), found)

    def test_crossed(self):
        kinds = {}
        for join in [join for join in doorless_joins(30) if join.kind == "crossed"]:
            for seekers in range(least_row(join.web).number):
                rest = (seekers - len(join.second), seekers - len(join.first))
                webs = (join.first, join.second)
                halves = [None if many < 0 else row_answer(web, many) for web, many in zip(webs, rest)]
                found = self.keeps(join_shut, join, seekers, *halves)
                passed = [half for half in halves if half is not None]
                self.accepted(join, seekers, found, passed)
                kinds[(len(passed), type(found))] = True
                self.assertEqual(list(found), self.sets_of(join, seekers, *halves))
        self.assertEqual(len(kinds), 6)

    def sets_of(self, join, seekers, first, second):
        """The sets that point [62] tells."""
        found = []
        for places in subsets(range(len(join.web))):
            left = [place for place in range(len(join.web)) if place not in places]
            if any(place in join.firsts for place in left) and any(place in join.seconds for place in left):
                fine = len(places) <= seekers
            elif not left:
                fine = False
            elif left[0] in join.firsts:
                own = tuple(place for place in range(len(join.first)) if join.of_first(place) in places)
                fine = first is not None and own in first
            else:
                own = tuple(place for place in range(len(join.second)) if join.of_second(place) in places)
                fine = second is not None and own in second
            if fine:
                found.append(places)
        return found

    def test_a_shut_that_is_no_blocking(self):
        # The joined webs are plain, but the family is not known to be a Blocking.
        shut, blocking = Shut(line(2), 1, [(), (0,), (1,)]), Blocking(line(2), 1, [(), (0,), (1,)])
        for join in joins_of(line(2), line(2)):
            if join.kind == "crossed":
                other = Blocking(renamed(line(2)), 1, [(), (0,), (1,)])
                self.assertIs(type(join_shut(join, 3, blocking, other)), Blocking)
                self.assertIs(type(join_shut(join, 3, shut, other)), Shut)
                self.assertIs(type(join_shut(join, 3, blocking, Shut(renamed(line(2)), 1, list(other)))), Shut)
                self.assertIs(type(join_shut(join, 1, None, None)), Blocking)
                continue
            self.assertIs(type(join_shut(join, 1, shut, None)), Shut)
            self.assertIs(type(join_shut(join, 1, blocking, None)), Blocking)

    def test_a_blocking_of_a_join_that_is_not_plain(self):
        blocking = Blocking(line(2), 1, [(), (0,), (1,)])
        for join in joins_of(line(2), oneway(3)):
            if join.kind == "crossed":
                found = join_shut(join, 4, blocking, row_answer(join.second, 2)) if least_row(join.second).number > 2 else None
                self.assertIn(type(found), (Shut, type(None)))
                self.assertIs(type(join_shut(join, 1, None, None)), Shut)
                continue
            self.assertIs(type(join_shut(join, 1, blocking, None)), Shut)

    def test_no_seekers_and_eight(self):
        one = Web(["a"], [])
        none, other = Blocking(one, 0, [()]), Blocking(renamed(one), 0, [()])
        for join in joins_of(one, one):
            if join.kind == "crossed":
                self.assertEqual(list(join_shut(join, 0, None, None)), [()])
                self.assertEqual(list(join_shut(join, 1, none, other)), [(), (0,), (1,)])
                self.fails(BadCarry("first"), join_shut, join, 8, None, None)
                self.fails(BadCarry("first"), join_shut, join, 8, none, other)
                self.fails(BadCarry("first"), join_shut, join, 0, none, None)
                self.fails(BadCarry("second"), join_shut, join, 0, None, other)
                self.fails(BadCarry("first"), join_shut, join, 1, None, other)
                self.fails(BadCarry("second"), join_shut, join, 1, none, None)
                continue
            self.assertIn((), join_shut(join, 0, none, None))
            self.fails(BadCarry("first"), join_shut, join, 8, none, None)
            self.fails(BadCarry("second"), join_shut, join, 8, None, other)

    def test_wrong(self):
        shut, other = row_answer(line(3), 1), row_answer(renamed(oneway(3)), 1)
        for join in joins_of(line(3), oneway(3), 1, 1):
            for seekers in (-1, 9, -10 ** 9):
                self.fails(BadNumber(seekers), join_shut, join, seekers, None, None)
                self.fails(BadNumber(seekers), join_shut, join, seekers, other, shut)
            if join.kind == "crossed":
                self.fails(BadCarry("first"), join_shut, join, 1, shut, None)
                self.fails(BadCarry("second"), join_shut, join, 1, None, other)
                self.fails(BadCarry("first"), join_shut, join, 4, None, other)
                self.fails(BadCarry("first"), join_shut, join, 4, row_answer(line(3), 0), shut)
                self.fails(BadCarry("second"), join_shut, join, 4, shut, shut)
                self.assertEqual(join_shut(join, 4, shut, other).seekers, 4)
                continue
            self.fails(BadCarry("first"), join_shut, join, 1, None, None)
            self.fails(BadCarry("first"), join_shut, join, 1, shut, other)
            self.fails(BadCarry("first"), join_shut, join, 1, other, None)
            self.fails(BadCarry("first"), join_shut, join, 0, shut, None)
            self.fails(BadCarry("second"), join_shut, join, 1, None, shut)
            self.fails(BadCarry("second"), join_shut, join, 0, None, other)
        for join in joins_of(line(3, 2), DOORS):
            self.fails(NotDoorless(), join_shut, join, -1, None, None)


if __name__ == "__main__":
    unittest.main()
