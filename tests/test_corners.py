"""Points [29] to [33]: foldings."""

import random
import unittest
from itertools import permutations

from helpers import Case, full, line, oneway, ring, some_plain, web_of
from tagwebs.corners import Folding, covers, fold_up
from tagwebs.deciding import decide
from tagwebs.errors import BadFold, BadNumber, NotPlain, OutOfReach, UnknownPlace
from tagwebs.games import Game
from tagwebs.papers import Ranks
from tagwebs.products import box, strong
from tagwebs.webs import Web


def plain_webs(seed, number, most):
    chance = random.Random(seed)
    return [some_plain(chance, 1 + chance.randrange(most), 2 + chance.randrange(7), 1 + at % 3) for at in range(number)]


def covered(web, left, u, v):
    """Whether the words of point [29] hold for two places that are left."""
    return u != v and u in left and v in left and all(p in web.steps(v, 0) for p in left if p in web.steps(u, 0))


class Covers(Case):
    def test_line(self):
        web = line(4)
        self.assertEqual([(u, v) for u in range(4) for v in range(4) if covers(web, [0, 1, 2, 3], u, v)], [(0, 1), (3, 2)])
        self.assertIs(self.holds(covers, web, [2, 1, 1, 2], 1, 2), True)
        self.assertIs(covers(web, (1, 2), 2, 1), True)
        self.assertIs(covers(web, [0, 1], 2, 1), False)
        self.assertIs(covers(web, [0, 2], 0, 1), False)
        self.assertIs(covers(web, [0, 1, 2, 3], 0, 0), False)
        self.assertIs(covers(web, [], 0, 1), False)
        self.assertIs(covers(web, [0, 3], 0, 3), False)

    def test_all(self):
        for web in plain_webs(111, 30, 5):
            count = len(web)
            for bits in range(2 ** count):
                left = [place for place in range(count) if bits >> place & 1]
                for u in range(count):
                    for v in range(count):
                        self.assertIs(covers(web, left, u, v), covered(web, left, u, v))

    def test_wrong(self):
        web = line(3)
        self.fails(NotPlain(), covers, oneway(3), [9], 9, 9)
        self.fails(NotPlain(), covers, web_of(2, 2, {(0, 0, 1), (0, 1, 0)}), [0, 1], 0, 1)
        self.fails(UnknownPlace(4), covers, web, [0, 4, -1], 7, 8)
        self.fails(UnknownPlace(7), covers, web, [0, 1], 7, 8)
        self.fails(UnknownPlace(8), covers, web, [0, 1], 0, 8)
        self.fails(UnknownPlace(-1), covers, web, [], -1, 0)


class Making(Case):
    def test_attributes(self):
        folds = [(0, 1), (1, 2)]
        folding = self.holds(lambda held: Folding(line(4), held), folds)
        self.assertEqual((folding.web, folding.folds, folding.left), (line(4), ((0, 1), (1, 2)), (2, 3)))
        self.assertEqual((folding.whole, folding.finished), (False, False))
        folds.clear()
        self.assertEqual(folding.folds, ((0, 1), (1, 2)))

    def test_whole_and_finished(self):
        some = [
            (Folding(line(3), []), False, False), (Folding(line(3), [(2, 1), (0, 1)]), True, True),
            (Folding(ring(4), []), False, True), (Folding(Web(["a"], []), []), True, True),
            (Folding(Web(["a", "b"], []), []), False, True), (Folding(full(3), [(1, 0)]), False, False),
        ]
        for folding, whole, finished in some:
            self.assertIs(folding.whole, whole)
            self.assertIs(folding.finished, finished)

    def test_what_is_away_does_not_count(self):
        web = Web.tied(list("abcde"), [("a", "b"), ("b", "c"), ("c", "d"), ("d", "a"), ("a", "e"), ("c", "e"), ("b", "e")])
        self.assertEqual(Folding(web, [(1, 4)]).left, (0, 2, 3, 4))
        self.fails(BadFold(1), Folding, web, [(1, 4), (0, 1)])
        self.assertTrue(Folding(web, [(1, 4)]).finished)
        self.fails(BadFold(0), Folding, line(4), [(1, 2)])
        self.assertEqual(Folding(line(4), [(0, 1), (1, 2), (3, 2)]).left, (2,))

    def test_wrong(self):
        self.fails(NotPlain(), Folding, oneway(3), [(9, 9)])
        for fold in [(0, 2), (1, 1), (0, 3), (3, 0), (-1, 0), (1, 0), (9, 9), (0, -2)]:
            self.fails(BadFold(0), Folding, line(3), [fold, (0, 1)])
            self.fails(BadFold(1), Folding, line(3), [(2, 1), fold] if fold != (1, 0) else [(2, 1), (1, 2)])
        self.fails(BadFold(1), Folding, line(3), [(0, 1), (0, 1)])
        self.fails(BadFold(2), Folding, line(3), [(0, 1), (1, 2), (2, 1)])

    def test_equal(self):
        folding = Folding(line(3), [(0, 1)])
        self.assertTrue(folding == Folding(line(3), ((0, 1),)))
        for other in [Folding(line(3), []), Folding(line(3), [(2, 1)]), Folding(line(4), [(0, 1)]), Folding(line(3, 2), [(0, 1)]), 3]:
            self.assertFalse(folding == other)
        # The same places are left, by other folds.
        self.assertFalse(Folding(full(3), [(0, 1)]) == Folding(full(3), [(0, 2)]))


class Shadows(Case):
    def test_shadow(self):
        folding = Folding(line(4), [(0, 1), (1, 2), (3, 2)])
        self.assertEqual([[folding.shadow(level, place) for place in range(4)] for level in range(4)], [
            [0, 1, 2, 3], [1, 1, 2, 3], [2, 2, 2, 3], [2, 2, 2, 2]])
        for level in (-1, 4, 10 ** 9):
            self.fails(BadNumber(level), folding.shadow, level, 9)
        for place in (-1, 4):
            self.fails(UnknownPlace(place), folding.shadow, 0, place)

    def test_shadows_keep_passages(self):
        for web in plain_webs(112, 40, 7):
            folding = fold_up(web)
            for level in range(len(folding.folds) + 1):
                for u in range(len(web)):
                    for v in web.steps(u, 0):
                        self.assertIn(folding.shadow(level, v), web.steps(folding.shadow(level, u), 0))

    def test_chase(self):
        folding = Folding(line(5), [(0, 1), (1, 2), (2, 3), (3, 4)])
        self.assertEqual([folding.chase(3, place) for place in range(5)], [2, 2, 2, 3, 4])
        self.assertEqual([folding.chase(0, place) for place in range(2)], [0, 1])
        self.fails(OutOfReach(), folding.chase, 0, 2)
        self.fails(OutOfReach(), Folding(line(3), []).chase, 0, 2)
        self.fails(UnknownPlace(5), folding.chase, 5, 9)
        self.fails(UnknownPlace(9), folding.chase, 0, 9)
        self.fails(UnknownPlace(-1), folding.chase, 0, -1)

    def test_chase_takes_the_least_level(self):
        for web in plain_webs(113, 40, 6):
            folding = fold_up(web)
            for c in range(len(web)):
                for r in range(len(web)):
                    shadows = [folding.shadow(level, r) for level in range(len(folding.folds) + 1)]
                    near = [place for place in shadows if place in web.steps(c, 0)]
                    if near:
                        self.assertEqual(folding.chase(c, r), near[0])
                    else:
                        self.fails(OutOfReach(), folding.chase, c, r)


class FoldUp(Case):
    def test_example(self):
        folding = fold_up(Web.tied(["a", "b", "c"], [("a", "b"), ("b", "c")]))
        self.assertEqual([folding.folds, folding.left, folding.shadow(1, 0), folding.chase(2, 0)], [
            ((0, 1), (1, 2)), (2,), 1, 1])

    def test_least_fold_of_several(self):
        self.assertEqual(fold_up(full(4)).folds, ((0, 1), (1, 2), (2, 3)))
        star = Web.tied(list("abcd"), [("d", "a"), ("d", "b"), ("d", "c")])
        self.assertEqual(fold_up(star).folds, ((0, 3), (1, 3), (2, 3)))
        # After the first fold a lesser place than before can go.
        back = Web.tied(list("abc"), [("a", "b"), ("a", "c")])
        self.assertEqual(fold_up(back).folds, ((1, 0), (0, 2)))

    def test_always_the_least(self):
        for web in plain_webs(114, 60, 7):
            left = list(range(len(web)))
            folds = []
            while True:
                ready = [(u, v) for u in left for v in left if covered(web, left, u, v)]
                if not ready:
                    break
                folds.append(min(ready))
                left.remove(min(ready)[0])
            folding = fold_up(web)
            self.assertEqual((folding.folds, folding.left), (tuple(folds), tuple(left)))
            self.assertTrue(folding.finished)
            self.assertEqual(folding, Folding(web, folds))

    def test_all_finished_foldings_leave_as_many(self):
        chance = random.Random(115)
        for web in plain_webs(115, 40, 6):
            many = len(fold_up(web).left)
            for _ in range(10):
                folds = []
                while True:
                    left = Folding(web, folds).left
                    ready = [(u, v) for u, v in permutations(left, 2) if covers(web, left, u, v)]
                    if not ready:
                        break
                    folds.append(chance.choice(ready))
                self.assertEqual(len(Folding(web, folds).left), many)

    def test_one_seeker(self):
        kinds = [0, 0]
        webs = [*plain_webs(116, 70, 6), ring(4), ring(5), ring(6), box(line(2), line(3)), strong(line(2), line(4)),
                Web.tied(list("abcde"), [("a", "b"), ("b", "c"), ("c", "d"), ("d", "a"), ("e", "a")])]
        for web in webs:
            whole = fold_up(web).whole
            kinds[whole] += 1
            self.assertIs(isinstance(decide(Game(web, 1)), Ranks), whole)
        self.assertGreater(min(kinds), 10)

    def test_wrong(self):
        self.fails(NotPlain(), fold_up, oneway(3))
        self.fails(NotPlain(), fold_up, oneway(3, 2))


if __name__ == "__main__":
    unittest.main()
