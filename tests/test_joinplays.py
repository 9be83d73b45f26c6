"""Point [64]: papers of walking games on webs that stand side by side."""

import random
import unittest

from helpers import Case, full, joins_of, line, many_webs, oneway, renamed, ring, some_web, web_of
from tagwebs.deciding import decide
from tagwebs.errors import BadCarry, TooMany
from tagwebs.games import Game
from tagwebs.joinplays import apart_lot, apart_ranks
from tagwebs.joins import Join
from tagwebs.papers import Lot, Ranks
from tagwebs.webs import Web

PACES = ("step", "swift")


def apart_joins(seed, number):
    """Joins side by side of small webs of all kinds."""
    chance = random.Random(seed)
    joins = []
    for at in range(number):
        counts = (1 + chance.randrange(4), 1 + chance.randrange(4 if at % 2 else 2))
        beats = 1 + chance.randrange(2)
        webs = [some_web(chance, count, beats, chance.randrange(4 if at % 2 else 9)) for count in counts]
        joins.append(Join.apart(webs[0], renamed(webs[1])))
    return joins


def papers_for(web, kind, pace, most=4):
    """The papers of one kind for every number of walking seekers up to this one, as far as there are any."""
    found = []
    for seekers in range(1, most + 1):
        try:
            paper = decide(Game(web, seekers, pace=pace))
        except TooMany:
            continue
        if isinstance(paper, kind):
            found.append(paper)
    return found


class ApartRanks(Case):
    def test_two_lines(self):
        join = Join.apart(line(3), renamed(line(2)))
        first, second = decide(Game(join.first, 1)), decide(Game(join.second, 1))
        ranks = self.keeps(apart_ranks, join, first, second)
        self.assertEqual((ranks.game, ranks.first, ranks.rounds), (Game(join.web, 2), (1, 3), 1))
        # A row of each paper, beside the seeker of the other one who stays at its first place.
        self.assertEqual(ranks.rows(), [
            ((0, ((0, 3),), (1,)), 1, (1, 3)), ((0, ((0, 3),), (2,)), 2, (1, 3)), ((0, ((1, 3),), (0,)), 1, (0, 3)),
            ((0, ((1, 3),), (2,)), 1, (2, 3)), ((0, ((1, 3),), (4,)), 1, (1, 4)), ((0, ((1, 4),), (3,)), 1, (1, 3)),
            ((0, ((2, 3),), (0,)), 2, (1, 3)), ((0, ((2, 3),), (1,)), 1, (1, 3))])

    def test_all(self):
        more = 0
        for join in apart_joins(331, 30):
            for pace in PACES:
                for first in papers_for(join.first, Ranks, pace):
                    for second in papers_for(join.second, Ranks, pace):
                        if first.game.seekers + second.game.seekers <= 4:
                            more += first.rounds > 1
                            self.check(join, first, second)
        self.assertGreater(more, 20)

    def check(self, join, first, second):
        ranks = apart_ranks(join, first, second)
        game = Game(join.web, first.game.seekers + second.game.seekers, pace=first.game.pace)
        behind = len(join.first)
        over = tuple(place + behind for place in second.first)
        rows = [((beat, ((*post, *over),), (r,)), rank, (*send, *over)) for (beat, (post,), (r,)), rank, send in first.rows()]
        for (beat, (post,), (r,)), rank, send in second.rows():
            posts = [(*first.first, *[place + behind for place in one]) for one in (post, send)]
            rows.append(((beat, (posts[0],), (r + behind,)), rank, posts[1]))
        self.assertEqual((ranks.game, ranks.first, ranks.rows()), (game, (*first.first, *over), sorted(rows)))
        self.assertEqual(ranks.rounds, max(first.rounds, second.rounds))
        self.assertEqual(Ranks(game, ranks.first, ranks.rows()), ranks)

    def test_papers_that_are_not_the_best(self):
        game = Game(line(2), 1)
        slow = Ranks(game, (0,), [((0, ((0,),), (1,)), 7, (1,))])
        join = Join.apart(line(2), renamed(line(2)))
        ranks = apart_ranks(join, slow, decide(Game(join.second, 2)))
        self.assertEqual((ranks.rounds, len(ranks)), (7, 3))

    def test_most_seekers(self):
        join = Join.apart(line(2), renamed(line(2)))
        for many in (1, 2, 3):
            first, second = decide(Game(join.first, many)), decide(Game(join.second, 4 - many))
            self.assertEqual(apart_ranks(join, first, second).game.seekers, 4)
            self.fails(BadCarry("seekers"), apart_ranks, join, first, decide(Game(join.second, 5 - many)))
        self.fails(BadCarry("seekers"), apart_ranks, join, decide(Game(join.first, 4)), decide(Game(join.second, 4)))

    def test_wrong_games(self):
        join = Join.apart(line(2), renamed(line(3)))
        first, second = decide(Game(join.first, 4)), decide(Game(join.second, 4))
        for change in ({"travel": "fly", "seekers": 2}, {"late": 1}, {"late": None}, {"web": line(3)}, {"web": line(2, 2)}):
            self.fails(BadCarry("first"), apart_ranks, join, decide(first.game.changed(**change)), second)
            self.fails(BadCarry("first"), apart_ranks, join, decide(first.game.changed(**change)), first)
            self.fails(BadCarry("second"), apart_ranks, join, first, decide(second.game.changed(**change)))
        self.fails(BadCarry("second"), apart_ranks, join, first, first)
        self.fails(BadCarry("second"), apart_ranks, join, first, decide(second.game.changed(pace="swift")))
        self.fails(BadCarry("second"), apart_ranks, join, decide(first.game.changed(pace="swift")), second)
        swift = [decide(paper.game.changed(pace="swift", seekers=2)) for paper in (first, second)]
        self.assertEqual(apart_ranks(join, *swift).game.pace, "swift")

    def test_wrong_kinds(self):
        first, second = decide(Game(line(3), 4, late=1)), decide(Game(line(3), 4))
        for join in joins_of(line(2), line(2)):
            if join.kind != "apart":
                self.fails(BadCarry("kind"), apart_ranks, join, first, second)


class ApartLot(Case):
    def test_none_on_both_sides(self):
        join = Join.apart(line(2), renamed(line(2)))
        lot = self.keeps(apart_lot, join, None, None)
        self.assertEqual((lot.game, lot.rows()), (Game(join.web, 1), [
            (0, ((0,),), (2,)), (0, ((0,),), (3,)), (0, ((1,),), (2,)), (0, ((1,),), (3,)),
            (0, ((2,),), (0,)), (0, ((2,),), (1,)), (0, ((3,),), (0,)), (0, ((3,),), (1,))]))

    def test_none_on_one_side(self):
        # Of three seekers at most one is where the ring is, or none is where the single place is.
        join = Join.apart(ring(4), renamed(Web(["a"], [])))
        lot = apart_lot(join, decide(Game(ring(4), 1)), None)
        self.assertEqual(lot.game, Game(join.web, 2))
        self.assertIn((0, ((0, 1),), (4,)), lot)
        self.assertIn((0, ((0, 4),), (2,)), lot)
        self.assertIn((0, ((4, 4),), (0,)), lot)
        self.assertNotIn((0, ((0, 4),), (1,)), lot)
        self.assertNotIn((0, ((0, 1),), (2,)), lot)
        back = Join.apart(Web(["z"], []), ring(4))
        turned = apart_lot(back, None, decide(Game(ring(4), 1)))
        self.assertEqual((turned.game.seekers, len(turned)), (2, len(lot)))

    def test_fewer_seekers_than_the_paper(self):
        # A seeker who is alone counts as two at its place, two count as three with one place twice.
        papers = [decide(Game(web, seekers), most=20000) for web in many_webs(335, 25, 5, 2) for seekers in (2, 3)]
        lots = [paper for paper in papers if isinstance(paper, Lot)]
        self.assertGreater(len(lots), 3)
        for lot in lots[:6]:
            join = Join.apart(lot.game.web, renamed(Web(["a"], [], beats=lot.game.web.beats)))
            self.check(join, lot, None, "step")

    def test_all(self):
        both = 0
        for join in apart_joins(333, 25):
            for pace in PACES:
                firsts = [None, *papers_for(join.first, Lot, pace, 2)]
                seconds = [None, *papers_for(join.second, Lot, pace, 2)]
                for first in firsts:
                    for second in seconds:
                        both += first is not None and second is not None
                        self.check(join, first, second, pace)
        self.assertGreater(both, 10)

    def check(self, join, first, second, pace):
        many = [0 if lot is None else lot.game.seekers for lot in (first, second)]
        if sum(many) > 3:
            self.fails(BadCarry("seekers"), apart_lot, join, first, second, pace=pace)
            return
        lot = self.keeps(apart_lot, join, first, second, pace=pace)
        game = Game(join.web, sum(many) + 1, pace=pace)
        rows = []
        for beat in range(join.web.beats):
            for post in game.posts():
                for place in range(len(join.web)):
                    if self.is_row(join, first, second, beat, post, place):
                        rows.append((beat, (post,), (place,)))
        self.assertEqual((lot.game, lot.rows()), (game, rows))
        self.assertEqual(Lot(game, rows), lot)

    def is_row(self, join, first, second, beat, post, place):
        """True if point [64] has this standing in the lot."""
        side, number = join.sources(place)[0]
        lot = first if side == "first" else second
        here = [join.sources(one)[0][1] for one in post if join.sources(one)[0][0] == side]
        if not here:
            return True
        if lot is None or len(here) > lot.game.seekers:
            return False
        for full_post in lot.game.posts():
            left = list(full_post)
            if all(left.count(one) >= here.count(one) for one in here):
                for one in here:
                    left.remove(one)
                if all(one in here for one in left) and (beat, (full_post,), (number,)) in lot:
                    return True
        return False

    def test_most_seekers(self):
        ringed = Join.apart(ring(4), renamed(ring(4)))
        first, second = decide(Game(ring(4), 1)), decide(Game(renamed(ring(4)), 1))
        self.assertEqual(apart_lot(ringed, first, second).game.seekers, 3)
        loose = Join.apart(Web(list("abcd"), []), Web(list("wxyz"), []))
        lots = {many: decide(Game(loose.first, many)) for many in (1, 2, 3)}
        others = {many: decide(Game(loose.second, many)) for many in (1, 2, 3)}
        self.assertEqual(apart_lot(loose, lots[3], None).game.seekers, 4)
        self.assertEqual(apart_lot(loose, lots[1], others[2]).game.seekers, 4)
        self.assertEqual(apart_lot(loose, None, others[3]).game.seekers, 4)
        for many, other in [(3, 1), (1, 3), (2, 2), (3, 3)]:
            self.fails(BadCarry("seekers"), apart_lot, loose, lots[many], others[other])
        self.fails(BadCarry("first"), apart_lot, loose, others[3], lots[3])
        self.fails(BadCarry("second"), apart_lot, loose, lots[3], lots[3])
        four = decide(Game(Web(list("abcdefg"), []), 4), most=20000)
        large = Join.apart(Web(list("abcdefg"), []), Web(["z"], []))
        self.fails(BadCarry("seekers"), apart_lot, large, four, None)

    def test_wrong_games(self):
        loose = Join.apart(Web(list("abc"), []), Web(list("xyz"), []))
        first, second = decide(Game(loose.first, 2)), decide(Game(loose.second, 2))
        for change in ({"travel": "fly"}, {"late": 1}, {"late": None}, {"web": ring(4), "seekers": 1}, {"pace": "swift"}):
            self.fails(BadCarry("first"), apart_lot, loose, decide(first.game.changed(**change)), second)
            self.fails(BadCarry("first"), apart_lot, loose, decide(first.game.changed(**change)), first)
            self.fails(BadCarry("second"), apart_lot, loose, first, decide(second.game.changed(**change)))
        self.fails(BadCarry("first"), apart_lot, loose, first, None, pace="swift")
        self.fails(BadCarry("second"), apart_lot, loose, None, second, pace="swift")
        for pace in ("", "slow", "Step", "walk"):
            self.fails(BadCarry("pace"), apart_lot, loose, second, first, pace=pace)
            self.fails(BadCarry("pace"), apart_lot, loose, None, None, pace=pace)

    def test_wrong_kinds(self):
        for join in joins_of(line(2), line(2)):
            if join.kind != "apart":
                self.fails(BadCarry("kind"), apart_lot, join, None, None)
                self.fails(BadCarry("kind"), apart_lot, join, decide(Game(ring(4), 1)), None, pace="slow")

    def test_one_way_passages_and_doors(self):
        doors = web_of(3, 2, {(0, 0, 1), (0, 1, 0), (1, 1, 2), (1, 2, 1)})
        join = Join.apart(doors, renamed(oneway(3, 2)))
        for pace in PACES:
            for first in [None, *papers_for(doors, Lot, pace, 2)]:
                for second in [None, *papers_for(join.second, Lot, pace, 2)]:
                    self.check(join, first, second, pace)


if __name__ == "__main__":
    unittest.main()
