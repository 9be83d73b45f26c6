"""Points [24] to [26]: Ranks and Lot."""

import copy
import unittest

from helpers import Case, full, line, oneway, ring
from tagwebs.deciding import decide
from tagwebs.errors import BadPaper, BadPost, CannotSend, TagError, UnknownStanding
from tagwebs.games import Game
from tagwebs.papers import Lot, Paper, Ranks
from tagwebs.standings import answers, first_standings, standings
from tagwebs.webs import Web
from test_standings import small_games

LINE = Game(line(3), 1)
RING = Game(ring(4), 1)


def at(c, r):
    return (0, ((c,),), (r,))


def line_rows():
    """The rows of the seeker who begins in the middle of a line of three."""
    return [(at(1, 0), 1, (0,)), (at(1, 2), 1, (2,))]


def ring_lot():
    """The standings with the runner opposite to the seeker on a ring of four."""
    return [at(0, 2), at(1, 3), at(2, 0), at(3, 1)]


def decided(seed, number, most):
    """Small games with their papers."""
    found = []
    for game in small_games(seed, number):
        try:
            found.append((game, decide(game, most=most)))
        except TagError:
            continue
    return found


class MakingRanks(Case):
    def test_attributes(self):
        ranks = self.holds(lambda rows: Ranks(LINE, (1,), rows), line_rows())
        self.assertEqual((ranks.game, ranks.first, ranks.rounds, len(ranks)), (LINE, (1,), 1, 2))
        self.assertIsInstance(ranks, Paper)
        self.assertEqual([ranks.rank(at(1, 2)), ranks.send(at(1, 2)), ranks.send(at(1, 0))], [1, (2,), (0,)])

    def test_rounds_are_of_the_first_standings(self):
        rows = line_rows() + [(at(0, 2), 9, (1,)), (at(0, 1), 5, (1,))]
        self.assertEqual([Ranks(LINE, (1,), rows).rounds, Ranks(LINE, (0,), rows).rounds], [1, 9])
        self.assertEqual(Ranks(Game(line(2), 2, travel="fly"), (0, 1), []).rounds, 0)

    def test_greater_ranks_than_needed(self):
        rows = [(at(0, 1), 7, (1,)), (at(0, 2), 9, (1,)), (at(1, 2), 8, (2,)), (at(1, 0), 1, (0,))]
        self.assertEqual(Ranks(LINE, (0,), rows).rounds, 9)

    def test_order_does_not_matter(self):
        rows = decide(Game(line(4), 1)).rows()
        game = Game(line(4), 1)
        self.assertEqual(Ranks(game, (1,), rows[::-1]), Ranks(game, (1,), rows))
        self.assertEqual(Ranks(game, (1,), rows[::-1]).rows(), rows)

    def test_first(self):
        for first in [(3,), (), (0, 1), (-1,)]:
            self.fails(BadPaper("first", 0), Ranks, LINE, first, [(at(0, 0), 0, (9,))])

    def test_row(self):
        wrong = [
            (at(1, 1), 1, (1,)), (at(1, 3), 1, (1,)), ((1, ((1,),), (0,)), 1, (0,)), (at(1, 0), 0, (0,)),
            (at(1, 0), -1, (0,)), (at(0, 2), 1, (2,)), (at(0, 1), 1, ()), (at(0, 1), 1, (3,)), (at(0, 1), 1, (1, 1)),
            ((0, ((1,),), ()), 1, (0,)), ((0, ((0,), (1,)), (2,)), 1, (2,)), ((0, (), (1,)), 1, (2,)),
        ]
        for row in wrong:
            self.fails(BadPaper("row", 0), Ranks, LINE, (1,), [row, *line_rows(), row])
            self.fails(BadPaper("row", 2), Ranks, LINE, (1,), [*line_rows(), row, row])
        self.fails(BadPaper("row", 2), Ranks, LINE, (1,), [*line_rows(), (at(1, 0), 3, (0,))])

    def test_answer(self):
        far = (at(0, 2), 2, (1,))
        self.fails(BadPaper("answer", 0), Ranks, LINE, (1,), [far])
        self.fails(BadPaper("answer", 1), Ranks, LINE, (1,), [line_rows()[0], far])
        self.fails(BadPaper("answer", 2), Ranks, LINE, (1,), [*line_rows(), (at(0, 2), 1, (1,)), (at(2, 0), 1, (1,))])
        self.fails(BadPaper("answer", 0), Ranks, LINE, (1,), [far, (at(1, 2), 2, (2,)), (at(1, 0), 1, (0,))])
        self.fails(BadPaper("answer", 0), Ranks, RING, (0,), [(at(0, 2), 9, (0,)), (at(0, 1), 8, (1,)), (at(0, 3), 8, (3,))])

    def test_start(self):
        self.fails(BadPaper("start", 0), Ranks, LINE, (1,), [])
        self.fails(BadPaper("start", 0), Ranks, LINE, (1,), line_rows()[1:])
        self.fails(BadPaper("start", 1), Ranks, LINE, (1,), line_rows()[:1])
        self.fails(BadPaper("start", 2), Ranks, Game(full(4), 1), (1,), [(at(1, 0), 1, (0,)), (at(1, 2), 1, (2,))])

    def test_order_of_checks(self):
        bad_row, bad_answer = (at(1, 1), 1, (1,)), (at(0, 2), 2, (1,))
        self.fails(BadPaper("row", 1), Ranks, LINE, (1,), [bad_answer, bad_row])
        self.fails(BadPaper("answer", 0), Ranks, LINE, (2,), [bad_answer])
        self.fails(BadPaper("row", 1), Ranks, LINE, (2,), [line_rows()[0], bad_row, bad_row])

    def test_copies(self):
        rows = line_rows()
        ranks = Ranks(LINE, (1,), rows)
        rows.clear()
        self.assertEqual(self.keeps(ranks.rows), line_rows())
        self.assertEqual(len(ranks), 2)

    def test_wrong_calls(self):
        ranks = Ranks(LINE, (1,), line_rows())
        for standing in [at(0, 1), at(1, 1), (), (0, 0, 0), (0, ((1,),), (0, 2))]:
            self.fails(UnknownStanding(standing), ranks.rank, standing)
            self.fails(UnknownStanding(standing), ranks.send, standing)
        self.assertEqual(ranks.rows(), line_rows())


class UsingRanks(Case):
    def test_like_a_list(self):
        ranks = decide(Game(line(3), 1))
        self.assertEqual(list(ranks), standings(LINE))
        self.assertEqual([len(ranks), at(0, 1) in ranks, at(0, 0) in ranks, () in ranks, (1, 2, 3) in ranks], [
            6, True, False, False, False])
        self.assertIs((0, ([0],), (1,)) in ranks, False)
        self.assertEqual(ranks.told(), "caught within 1")
        self.assertEqual(Ranks(Game(line(2), 2, travel="fly"), (0, 1), []).told(), "caught within 0")
        self.assertEqual(decide(Game(line(8), 1)).told(), "caught within 4")

    def test_equal(self):
        ranks = Ranks(LINE, (1,), line_rows())
        self.assertTrue(ranks == Ranks(LINE, (1,), line_rows()[::-1]))
        more = [*line_rows(), (at(0, 1), 1, (1,)), (at(0, 2), 2, (1,))]
        others = [
            Ranks(LINE, (1,), [*line_rows(), more[2]]), Ranks(LINE, (1,), [(at(1, 0), 2, (0,)), line_rows()[1]]),
            Ranks(Game(line(3), 1, pace="swift"), (1,), line_rows()), decide(RING), (1,),
        ]
        for other in others:
            self.assertFalse(ranks == other)
        self.assertFalse(Ranks(LINE, (1,), more) == Ranks(LINE, (0,), more))
        both = Game(full(3), 1)
        rows = [(at(c, r), 2, (r,)) for c in range(3) for r in range(3) if c != r]
        self.assertFalse(Ranks(both, (0,), rows) == Ranks(both, (0,), [(at(0, 1), 1, (1,)), *rows[1:]]))
        twin = Game(full(3), 2)
        start = (0, ((0, 0),), (1,)), (0, ((0, 0),), (2,))
        one = [(start[0], 1, (0, 1)), (start[1], 1, (2, 2))]
        other = [(start[0], 1, (1, 1)), (start[1], 1, (2, 2))]
        self.assertFalse(Ranks(twin, (0, 0), one) == Ranks(twin, (0, 0), other))

    def test_pruned(self):
        ranks = decide(Game(line(4), 1))
        pruned = ranks.pruned()
        self.assertEqual((ranks.first, len(ranks)), ((1,), 12))
        self.assertEqual(pruned.rows(), [(at(1, 0), 1, (0,)), (at(1, 2), 1, (2,)), (at(1, 3), 2, (2,)), (at(2, 3), 1, (3,))])
        self.assertEqual((pruned.game, pruned.first, pruned.rounds), (ranks.game, ranks.first, ranks.rounds))
        self.assertEqual(len(ranks), 12)
        self.assertEqual(Ranks(Game(line(2), 2, travel="fly"), (0, 1), []).pruned().rows(), [])

    def test_pruned_of_many(self):
        for game, paper in decided(82, 60, 800):
            if not isinstance(paper, Ranks):
                continue
            wanted = set()
            ahead = first_standings(game, paper.first)
            while ahead:
                standing = ahead.pop()
                if standing not in wanted:
                    wanted.add(standing)
                    ahead.extend(answers(game, standing, paper.send(standing)))
            self.assertEqual(paper.pruned().rows(), [row for row in paper.rows() if row[0] in wanted])
            self.assertEqual(paper.pruned().pruned(), paper.pruned())


class MakingLots(Case):
    def test_lot(self):
        lot = self.holds(lambda rows: Lot(RING, rows), ring_lot())
        self.assertEqual((lot.game, len(lot), lot.rows(), lot.told()), (RING, 4, ring_lot(), "free for ever"))
        self.assertIsInstance(lot, Paper)
        self.assertEqual(list(Lot(RING, ring_lot()[::-1])), ring_lot())

    def test_row(self):
        for wrong in [at(0, 0), at(0, 4), (1, ((0,),), (2,)), (0, (), (2,)), (0, ((0,),), (1, 2)), ring_lot()[1]]:
            self.fails(BadPaper("row", 2), Lot, RING, [*ring_lot()[:2], wrong, wrong, *ring_lot()[2:]])

    def test_answer(self):
        self.fails(BadPaper("answer", 0), Lot, RING, ring_lot()[:1])
        self.fails(BadPaper("answer", 4), Lot, RING, [*ring_lot(), at(0, 1)])
        self.fails(BadPaper("answer", 1), Lot, RING, [ring_lot()[0], at(0, 1), *ring_lot()[1:], at(0, 3)])
        self.fails(BadPaper("answer", 0), Lot, LINE, standings(LINE))

    def test_start(self):
        self.fails(BadPaper("start", 0), Lot, RING, [])
        self.fails(BadPaper("start", 0), Lot, LINE, [])
        apart = Game(Web.tied(list("abc"), [("a", "b")]), 1)
        free = [at(0, 2), at(1, 2), at(2, 0), at(2, 1)]
        self.assertEqual(len(Lot(apart, free)), 4)
        self.fails(BadPaper("start", 2), Lot, apart, free[:2])
        self.fails(BadPaper("start", 0), Lot, apart, free[2:])
        # Where a post leaves no free place there is nothing to begin with.
        alone = Game(Web(["a", "b"], []), 2)
        self.fails(BadPaper("start", 1), Lot, alone, [(0, ((0, 0),), (1,)), (0, ((1, 1),), (0,))])

    def test_order_of_checks(self):
        self.fails(BadPaper("row", 1), Lot, LINE, [at(0, 1), at(0, 0)])
        self.fails(BadPaper("answer", 0), Lot, LINE, [at(1, 0)])

    def test_copies(self):
        rows = ring_lot()
        before = copy.deepcopy(rows)
        lot = Lot(RING, rows)
        self.assertEqual(rows, before)
        rows.clear()
        self.assertEqual(self.keeps(lot.rows), ring_lot())

    def test_equal(self):
        lot = Lot(RING, ring_lot())
        self.assertTrue(lot == Lot(RING, ring_lot()[::-1]))
        wider = Game(ring(5), 1)
        self.assertFalse(lot == decide(wider))
        self.assertFalse(lot == Lot(Game(ring(4), 1, pace="swift"), ring_lot()))
        self.assertFalse(lot == decide(LINE))
        self.assertFalse(lot == ring_lot())
        apart = Game(Web(list("abc"), []), 1)
        some = [at(0, 1), at(1, 2), at(2, 1)]
        self.assertFalse(Lot(apart, some) == Lot(apart, [*some, at(0, 2)]))


class UsingLots(Case):
    def test_like_a_list(self):
        lot = Lot(RING, ring_lot())
        self.assertEqual([len(lot), at(0, 2) in lot, at(0, 1) in lot, () in lot, (1, 2) in lot], [4, True, False, False, False])
        self.assertIs((0, ([0],), (2,)) in lot, False)

    def test_entry(self):
        lot = Lot(RING, ring_lot())
        self.assertEqual([lot.entry((c,)) for c in range(4)], ring_lot())
        for post in [(4,), (), (0, 1)]:
            self.fails(BadPost(post), lot.entry, post)
        apart = Game(Web(list("abc"), []), 1)
        every = Lot(apart, standings(apart))
        self.assertEqual([every.entry((0,)), every.entry((2,))], [at(0, 1), at(2, 0)])
        self.assertEqual(Lot(apart, [at(0, 2), at(1, 0), at(2, 0)]).entry((0,)), at(0, 2))

    def test_answer(self):
        lot = Lot(RING, ring_lot())
        self.assertEqual([lot.answer(at(0, 2), (c,)) for c in (0, 1, 3)], [at(0, 2), at(1, 3), at(3, 1)])
        self.fails(UnknownStanding(at(0, 1)), lot.answer, at(0, 1), (9,))
        self.fails(UnknownStanding(()), lot.answer, (), (9,))
        for post in [(2,), (9,), (), (0, 1)]:
            self.fails(CannotSend(post), lot.answer, at(0, 2), post)
        two = Game(Web.tied(list("abcd"), [("a", "b"), ("c", "d")]), 1)
        self.assertEqual(decide(two).answer(at(0, 3), (1,)), at(1, 2))

    def test_answers_stay_in_the_lot(self):
        count = 0
        for game, paper in decided(83, 70, 800):
            if not isinstance(paper, Lot):
                continue
            count += 1
            for post in game.posts():
                those = [standing for standing in first_standings(game, post) if standing in paper]
                self.assertEqual(paper.entry(post), min(those))
            for standing in paper:
                for post in game.sends(standing[0], standing[1][-1]):
                    those = [other for other in answers(game, standing, post) if other in paper]
                    self.assertEqual(paper.answer(standing, post), min(those))
        self.assertGreater(count, 8)


class OneOfThem(Case):
    def test_never_both(self):
        kinds = {Ranks: 0, Lot: 0}
        for game, paper in decided(84, 120, 700):
            kinds[type(paper)] += 1
            if isinstance(paper, Ranks):
                self.assertEqual(Ranks(game, paper.first, paper.rows()), paper)
                self.refuse_lots(game, paper)
            else:
                self.assertEqual(Lot(game, paper.rows()), paper)
                self.refuse_ranks(game, paper)
        self.assertGreater(min(kinds.values()), 8)

    def refuse_lots(self, game, paper):
        """No lot can have standings from which the runner is caught, and there are no others to begin with."""
        every = standings(game)
        for rows in (every, paper.rows(), [row for row in every if row not in paper]):
            with self.assertRaises(BadPaper):
                Lot(game, rows)

    def refuse_ranks(self, game, paper):
        """No ranks can be given to standings of a lot, however many rounds they allow."""
        rows = []
        for place, standing in enumerate(paper):
            rows.append((standing, 1 + place, game.sends(standing[0], standing[1][-1])[0]))
        for first in game.posts()[:3]:
            with self.assertRaises(BadPaper):
                Ranks(game, first, rows)
            with self.assertRaises(BadPaper):
                Ranks(game, first, [(standing, 10 ** 9, post) for standing, _, post in rows])

    def test_one_way_ring(self):
        self.assertIsInstance(decide(Game(oneway(3), 1)), Lot)
        self.assertIsInstance(decide(Game(oneway(3), 1, travel="fly")), Lot)


if __name__ == "__main__":
    unittest.main()
