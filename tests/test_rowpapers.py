"""Points [45] and [51]: the papers of rows and of shut families."""

import random
import unittest

from helpers import Case, every_doorless, every_plain, full, line, oneway, ring, some_doorless, some_plain, subsets
from tagwebs.clearing import least_row, row_answer
from tagwebs.errors import BadCarry
from tagwebs.games import Game
from tagwebs.papers import Lot, Ranks
from tagwebs.reaching import rim
from tagwebs.rowpapers import row_ranks, shut_lot
from tagwebs.rows import Row, row_of
from tagwebs.shuts import Blocking, Shut
from tagwebs.unseen import possible_after
from tagwebs.webs import Web

LINE = line(3)


def game_of(web, seekers):
    return Game(web, seekers, travel="fly", pace="swift", late=None)


def webs():
    chance = random.Random(211)
    return [*every_doorless(3), *every_plain(4), ring(5, 2), oneway(5, 3), line(6), full(5),
            *[some_doorless(chance, 5, share, 1 + share % 2) for share in (1, 2, 3, 5)], some_plain(chance, 7, 4)]


def rows():
    """Rows of many kinds: with empty, equal and useless bags."""
    chance = random.Random(212)
    found = []
    for web in webs():
        for _ in range(3):
            order = list(range(len(web)))
            chance.shuffle(order)
            bags = []
            for bag in row_of(web, order).bags:
                bags += [bag] * (1 + chance.randrange(2))
            while chance.randrange(3):
                bags = [(), *bags] if chance.randrange(2) else [*bags, ()]
            found.append(Row(web, bags))
    return found


class RowRanks(Case):
    def test_line(self):
        ranks = self.keeps(row_ranks, Row(LINE, [(0, 1), (1, 2)]))
        self.assertEqual((ranks.game, ranks.first, ranks.rounds), (game_of(LINE, 2), (0, 1), 1))
        self.assertEqual(ranks.rows(), [((0, ((0, 1),), (2,)), 1, (1, 2))])

    def test_all_clean_at_once(self):
        ranks = row_ranks(Row(LINE, [(0, 1, 2), (0, 1), ()]))
        self.assertEqual((ranks.first, ranks.rows(), ranks.rounds), ((0, 1, 2), [], 0))

    def test_last_bags_that_add_nothing(self):
        ranks = row_ranks(Row(LINE, [(0, 1), (1, 2), (2,), ()]))
        self.assertEqual((ranks.rows(), ranks.rounds), ([((0, ((0, 1),), (2,)), 1, (1, 2))], 1))

    def test_a_standing_at_several_moments(self):
        row = Row(LINE, [(), (), (0,), (0, 1), (0, 1), (0, 1), (1, 2)])
        ranks = row_ranks(row)
        self.assertEqual(ranks.rows(), [
            ((0, ((),), (0, 1, 2)), 5, (0,)), ((0, ((0,),), (1, 2)), 4, (0, 1)), ((0, ((0, 1),), (2,)), 1, (1, 2))])
        self.assertEqual((ranks.first, ranks.rounds), ((), 5))

    def test_beats_keep_moments_apart(self):
        ranks = row_ranks(Row(line(3, 2), [(), (), (0,), (0, 1), (0, 1), (0, 1), (1, 2)]))
        self.assertEqual([(s[0], s[1][0], rank) for s, rank, _ in ranks.rows()], [
            (0, (), 6), (0, (0,), 4), (0, (0, 1), 2), (1, (), 5), (1, (0, 1), 1)])
        self.assertEqual(ranks.rounds, 6)

    def test_rows(self):
        for row in rows():
            web = row.web
            ranks = row_ranks(row)
            every = set(range(len(web)))
            clean = [{place for bag in row.bags[: at + 1] for place in bag} for at in range(len(row.bags))]
            end = min(at for at in range(len(clean)) if clean[at] == every)
            wanted = {}
            for at in range(end):
                standing = (at % web.beats, (row.bags[at],), tuple(sorted(every - clean[at])))
                wanted[standing] = (standing, end - at, row.bags[at + 1])
            self.assertEqual((ranks.game, ranks.first), (game_of(web, row.size), row.bags[0]))
            self.assertEqual(ranks.rows(), sorted(wanted.values()))
            self.assertEqual(ranks, Ranks(ranks.game, ranks.first, ranks.rows()))

    def test_where_the_runner_can_be(self):
        for row in rows():
            for at, places in enumerate(possible_after(game_of(row.web, row.size), list(row.bags))):
                self.assertEqual(sorted([*places, *row.clean(at)]), list(range(len(row.web))))


class ShutLot(Case):
    def test_line(self):
        lot = self.keeps(shut_lot, Blocking(LINE, 1, [(), (0,), (0, 1), (1,), (2,)]))
        self.assertEqual(lot.game, game_of(LINE, 1))
        self.assertEqual(lot.rows(), [
            (0, ((),), (0, 1, 2)), (0, ((0,),), (1, 2)), (0, ((1,),), (0, 2)), (0, ((1,),), (2,)), (0, ((2,),), (0, 1))])

    def test_posts_between_a_set_and_its_rim(self):
        web = line(4, 2)
        lot = shut_lot(least_row(web).shut)
        self.assertEqual({len(places) for _, _, places in lot}, {1, 2, 3, 4})
        apart = Web(["a", "b", "c"], [])
        shut = Shut(apart, 0, [(), (0,), (1,), (0, 1)])
        self.fails(BadCarry("seekers"), shut_lot, shut)
        tied = Web.tied(list("abcd"), [("b", "c"), ("c", "d"), ("d", "b")])
        shut = row_answer(tied, 2)
        # The place a stays clean by itself, so the seekers can be there or elsewhere.
        self.assertIn((0, ((0,),), (1, 2, 3)), shut_lot(shut))
        self.assertIn((0, ((),), (1, 2, 3)), shut_lot(shut))

    def test_rows(self):
        for web in webs():
            for seekers in range(1, least_row(web).number):
                shut = row_answer(web, seekers)
                wanted = []
                for clean in shut:
                    places = tuple(place for place in range(len(web)) if place not in clean)
                    for post in subsets(clean, seekers):
                        if set(rim(web, clean)) <= set(post):
                            wanted += [(beat, (post,), places) for beat in range(web.beats)]
                lot = shut_lot(shut)
                self.assertEqual((lot.game, lot.rows()), (game_of(web, seekers), sorted(wanted)))
                self.assertEqual(lot, Lot(lot.game, lot.rows()))

    def test_wrong(self):
        self.fails(BadCarry("seekers"), shut_lot, Shut(LINE, 0, [()]))
        self.fails(BadCarry("seekers"), shut_lot, least_row(Web(["a"], [])).shut)


if __name__ == "__main__":
    unittest.main()
