"""Point [34]: the papers of foldings."""

import unittest

from helpers import Case, every_plain, full, line, ring
from tagwebs.chasing import folding_lot, folding_ranks
from tagwebs.corners import Folding, fold_up
from tagwebs.deciding import decide
from tagwebs.errors import BadCarry, OutOfReach
from tagwebs.games import Game
from tagwebs.papers import Lot, Ranks
from tagwebs.products import box, strong
from tagwebs.webs import Web
from test_corners import plain_webs


def webs():
    return [*plain_webs(131, 50, 7), ring(4), ring(5, 2), ring(6), full(4), box(line(2), line(3)), strong(line(2), line(4)),
            *every_plain(4), line(8), Web(["a", "b"], [], beats=3)]


def chased(folding, c, r):
    try:
        return folding.chase(c, r)
    except OutOfReach:
        return None


class FoldingRanks(Case):
    def test_line(self):
        folding = Folding(line(3), [(0, 1), (1, 2)])
        ranks = self.keeps(folding_ranks, folding)
        self.assertEqual((ranks.game, ranks.first, ranks.rounds), (Game(line(3), 1), (2,), 2))
        self.assertEqual([(s[1][0][0], s[2][0], rank, post[0]) for s, rank, post in ranks.rows()], [
            (0, 1, 1, 1), (1, 0, 1, 0), (1, 2, 1, 2), (2, 0, 2, 1), (2, 1, 1, 1)])

    def test_without_folds_on_one_place(self):
        for beats in (1, 4):
            ranks = folding_ranks(Folding(Web(["a"], [], beats=beats), []))
            self.assertEqual((ranks.first, ranks.rows(), ranks.rounds), ((0,), [], 0))

    def test_every_beat(self):
        ranks = folding_ranks(fold_up(line(2, 3)))
        self.assertEqual(ranks.rows(), [
            ((beat, ((c,),), (1 - c,)), 1, (1 - c,)) for beat in range(3) for c in range(2)])

    def test_rows(self):
        count = 0
        for web in webs():
            folding = fold_up(web)
            if not folding.whole:
                continue
            count += 1
            ranks = folding_ranks(folding)
            rows = []
            for c in range(len(web)):
                for r in range(len(web)):
                    place = chased(folding, c, r)
                    if c == r or place is None:
                        continue
                    levels = range(len(folding.folds) + 1)
                    level = min(n for n in levels if folding.shadow(n, r) in web.steps(c, 0))
                    rows += [((beat, ((c,),), (r,)), 1 + level, (place,)) for beat in range(web.beats)]
            self.assertEqual((ranks.rows(), ranks.first), (sorted(rows), folding.left))
            self.assertLessEqual(ranks.rounds, len(folding.folds))
            self.assertEqual(ranks, Ranks(Game(web, 1), ranks.first, ranks.rows()))
        self.assertGreater(count, 20)

    def test_another_folding_than_the_least(self):
        folding = Folding(line(4), [(3, 2), (2, 1), (1, 0)])
        ranks = folding_ranks(folding)
        self.assertEqual((ranks.first, ranks.rounds), ((0,), 3))
        self.assertEqual(ranks.send((0, ((0,),), (3,))), (1,))

    def test_wrong(self):
        for folding in [Folding(line(3), []), Folding(line(3), [(0, 1)]), fold_up(ring(4)), fold_up(Web(["a", "b"], []))]:
            self.fails(BadCarry("left"), folding_ranks, folding)


class FoldingLot(Case):
    def test_ring(self):
        lot = self.keeps(folding_lot, fold_up(ring(4)))
        self.assertEqual((lot.game, lot.rows()), (Game(ring(4), 1), [(0, ((c,),), ((c + 2) % 4,)) for c in range(4)]))

    def test_a_place_that_is_folded_away(self):
        web = Web.tied(list("abcde"), [("b", "c"), ("c", "d"), ("d", "e"), ("e", "b"), ("a", "b")], beats=2)
        folding = fold_up(web)
        self.assertEqual(folding.folds, ((0, 1),))
        rows = folding_lot(folding).rows()
        # The seeker at a stands for one at b, and the runner never goes to a.
        self.assertEqual([(c, r) for beat, ((c,),), (r,) in rows if beat == 1], [(0, 3), (1, 3), (2, 4), (3, 1), (4, 2)])
        self.assertEqual(len(rows), 10)

    def test_rows(self):
        count = 0
        for web in webs():
            folding = fold_up(web)
            if folding.whole:
                continue
            count += 1
            last = len(folding.folds)
            rows = [
                (beat, ((c,),), (r,)) for beat in range(web.beats) for c in range(len(web)) for r in folding.left
                if r not in web.steps(folding.shadow(last, c), 0)
            ]
            lot = folding_lot(folding)
            self.assertEqual((lot.rows(), lot.game), (sorted(rows), Game(web, 1)))
            self.assertEqual(lot, Lot(Game(web, 1), lot.rows()))
        self.assertGreater(count, 15)

    def test_wrong(self):
        for folding in [Folding(Web(["a"], []), []), fold_up(line(3)), Folding(line(3), []), Folding(full(3), [(0, 1)])]:
            self.fails(BadCarry("left"), folding_lot, folding)
        open_ring = Web.tied(list("abcde"), [("b", "c"), ("c", "d"), ("d", "e"), ("e", "b"), ("a", "b")])
        self.fails(BadCarry("left"), folding_lot, Folding(open_ring, []))


class OneOfThem(Case):
    def test_like_decide(self):
        for web in webs():
            folding = fold_up(web)
            paper = folding_ranks(folding) if folding.whole else folding_lot(folding)
            best = decide(Game(web, 1))
            self.assertIs(type(best), type(paper))
            if folding.whole:
                self.assertLessEqual(best.rounds, paper.rounds)
            else:
                self.assertTrue(all(standing in best for standing in paper))


if __name__ == "__main__":
    unittest.main()
