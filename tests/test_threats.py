"""Points [54] and [55]: threats."""

import random
import unittest

from helpers import Case, full, line, many_webs, oneway, ring, subsets, web_of
from tagwebs.deciding import decide, rank_from
from tagwebs.errors import BadNumber, BadPaper, BadPost, NotUnseen, TooMany, UnknownPlace
from tagwebs.games import Game
from tagwebs.papers import Lot
from tagwebs.threats import Threats, all_threats
from tagwebs.webs import Web

RING = Game(ring(4), 1, late=None)
# The runner is safe opposite to the seeker. It is safe as well if it can be at both places beside it.
RING_ROWS = [(0, (c,), ((c + 2) % 4,)) for c in range(4)]
RING_LEAST = [(0, (0,), (1, 3)), (0, (0,), (2,)), (0, (1,), (0, 2)), (0, (1,), (3,)), (0, (2,), (0,)), (0, (2,), (1, 3)),
              (0, (3,), (0, 2)), (0, (3,), (1,))]
# One passage, at the second beat only.
DOOR = web_of(2, 2, {(1, 0, 1), (1, 1, 0)})


def unseen_games(seed, number):
    """Games of all kinds whose seekers are told nothing, most of them on webs with doors."""
    chance = random.Random(seed)
    kinds = [(travel, pace) for travel in ("walk", "fly") for pace in ("step", "swift")]
    found = []
    for at, web in enumerate(many_webs(seed, number, 4, 3)):
        travel, pace = kinds[at % 4]
        found.append(Game(web, 1 + chance.randrange(2), travel=travel, pace=pace, late=None))
    return found


def all_standings(game):
    """All standings of a game whose seekers are told nothing, whether they come up or not."""
    count = len(game.web)
    return [
        (beat, (post,), places) for beat in range(game.web.beats) for post in game.posts()
        for places in subsets([place for place in range(count) if place not in post]) if places
    ]


class Making(Case):
    def test_ring(self):
        self.assertEqual(self.holds(lambda rows: list(Threats(RING, rows)), RING_ROWS), RING_ROWS)
        threats = Threats(RING, tuple(RING_ROWS))
        self.assertEqual((threats.game, len(threats), list(threats), threats.free), (RING, 4, RING_ROWS, True))
        self.assertEqual(list(Threats(RING, RING_ROWS[::-1])), RING_ROWS)
        rows = list(RING_ROWS)
        threats = Threats(RING, rows)
        rows.clear()
        self.assertEqual(list(threats), RING_ROWS)

    def test_none(self):
        threats = Threats(RING, [])
        self.assertEqual((len(threats), list(threats), threats.free, threats.of(0, (0,))), (0, [], False, []))
        self.assertIs(threats.escapes(0, (0,), [1, 2, 3]), False)

    def test_row(self):
        wrong = [
            (1, (0,), (2,)), (-1, (0,), (2,)), (0, (4,), (2,)), (0, (), (2,)), (0, (0, 0), (2,)), (0, (0,), ()), (0, (0,), (0, 2)),
            (0, (0,), (2, 1)), (0, (0,), (1, 1)), (0, (0,), (4,)), (0, (0,), (-1,)), RING_ROWS[1],
        ]
        for row in wrong:
            self.fails(BadPaper("row", 2), Threats, RING, [*RING_ROWS[:2], row, row, *RING_ROWS[2:]])

    def test_answer(self):
        self.fails(BadPaper("answer", 0), Threats, RING, RING_ROWS[:1])
        self.fails(BadPaper("answer", 4), Threats, RING, [*RING_ROWS, (0, (0,), (1,))])
        self.fails(BadPaper("answer", 1), Threats, RING, [RING_ROWS[0], (0, (0,), (1,)), *RING_ROWS[1:], (0, (0,), (3,))])

    def test_order_of_checks(self):
        self.fails(NotUnseen(), Threats, RING.changed(late=0), [(9, (9,), (9,))])
        self.fails(NotUnseen(), Threats, RING.changed(late=3), [])
        self.fails(BadPaper("row", 1), Threats, RING, [RING_ROWS[0], (0, (0,), ())])

    def test_more_than_the_least_sets(self):
        rows = [*RING_ROWS, (0, (0,), (1, 2)), (0, (0,), (1, 2, 3))]
        threats = Threats(RING, rows)
        self.assertEqual(threats.of(0, (0,)), [(1, 2), (1, 2, 3), (2,)])
        self.assertEqual(len(threats), 6)

    def test_doors_and_beats(self):
        game = Game(DOOR, 1, late=None)
        # The seeker goes through the door while it is open.
        self.assertEqual(list(all_threats(game)), [])
        apart = Game(Web(["a", "b", "c"], [("a", "b", "two", (1,))], beats=2), 1, late=None)
        rows = [(beat, (c,), (2,)) for beat in range(2) for c in range(2)]
        threats = Threats(apart, rows)
        self.assertEqual([threats.of(beat, (0,)) for beat in range(-1, 4)], [[(2,)]] * 5)
        self.assertIs(threats.free, False)
        self.fails(BadPaper("answer", 1), Threats, apart, [rows[0], (0, (2,), (0,)), *rows[1:]])
        self.fails(BadPaper("answer", 0), Threats, apart, rows[:2])
        more = Threats(apart, [*rows, *[(beat, (2,), (place,)) for beat in range(2) for place in range(2)]])
        self.assertIs(more.free, True)

    def test_what_is_made_is_what_is_described(self):
        chance = random.Random(231)
        made = 0
        for game in unseen_games(231, 60):
            every = [(beat, trail[0], places) for beat, trail, places in all_standings(game)]
            safe = list(all_threats(game, most=20000))
            for _ in range(3):
                rows = safe + [row for row in every if chance.randrange(12) == 0 and row not in safe]
                rows = [row for row in rows if chance.randrange(25)]
                made += self.check(game, rows)
        self.assertGreater(made, 30)

    def check(self, game, rows):
        wrong = [
            at for at, (beat, post, places) in enumerate(rows)
            if any(not self.lands(game, rows, beat, post, sent, places) for sent in game.sends(beat, post))
        ]
        if wrong:
            self.fails(BadPaper("answer", wrong[0]), Threats, game, rows)
            return 0
        self.assertEqual(list(Threats(game, rows)), sorted(rows))
        return bool(rows)

    def lands(self, game, rows, beat, post, sent, places):
        ends = set(game.spread(beat, post, sent, places))
        return any(b == (beat + 1) % game.web.beats and p == sent and set(those) <= ends for b, p, those in rows)


class Using(Case):
    def test_of(self):
        threats = all_threats(RING)
        self.assertEqual(self.keeps(threats.of, 0, (0,)), [(1, 3), (2,)])
        self.assertEqual([threats.of(beat, (1,)) for beat in (-3, 7)], [[(0, 2), (3,)], [(0, 2), (3,)]])
        for post in [(4,), (), (0, 1), (-1,)]:
            self.fails(BadPost(post), threats.of, 0, post)

    def test_escapes(self):
        threats = all_threats(RING)
        some = [([2], True), ([1], False), ([3, 1], True), ([0, 3, 0], False), ([0, 2, 2], True), ([], False), ([0], False)]
        for places, wanted in some:
            self.assertIs(self.holds(lambda held: threats.escapes(0, (0,), held), places), wanted)
            self.assertIs(threats.escapes(5, (0,), places), wanted)
        self.fails(BadPost((4,)), threats.escapes, 0, (4,), [9])
        self.fails(UnknownPlace(4), threats.escapes, 0, (0,), [2, 4, -1])
        self.fails(UnknownPlace(-1), threats.escapes, 0, (0,), [-1])


class AllThreats(Case):
    def test_ring(self):
        self.assertEqual(self.keeps(lambda game: list(all_threats(game)), RING), RING_LEAST)
        self.assertEqual(list(all_threats(Game(line(3), 1, late=None))), [])
        self.assertEqual(list(all_threats(Game(Web(["a"], []), 1, late=None))), [])

    def test_like_rank_from(self):
        kinds = {True: 0, False: 0}
        for game in [*unseen_games(232, 60), RING, Game(oneway(4, 2), 1, late=None), Game(DOOR, 1, travel="fly", late=None)]:
            threats = all_threats(game, most=20000)
            ranks = {standing: rank_from(game, standing, most=20000) for standing in all_standings(game)}
            rows = []
            for beat, trail, places in ranks:
                lost = ranks[(beat, trail, places)] is None
                kinds[lost] += 1
                self.assertIs(threats.escapes(beat, trail[0], places), lost)
                fewer = [some for some in subsets(places) if some and some != places]
                if lost and all(ranks[(beat, trail, some)] is not None for some in fewer):
                    rows.append((beat, trail[0], places))
            self.assertEqual(list(threats), sorted(rows))
            self.assertIs(threats.free, isinstance(decide(game, most=20000), Lot))
            self.assertEqual(threats.free, all(
                threats.escapes(0, post, [p for p in range(len(game.web)) if p not in post]) for post in game.posts()))
        self.assertGreater(min(kinds.values()), 300)

    def test_larger_games(self):
        for game in [Game(ring(5), 2, travel="fly", late=None), Game(full(4), 2, late=None), Game(line(5), 1, pace="swift", late=None)]:
            threats = all_threats(game, most=20000)
            self.assertIs(threats.free, isinstance(decide(game, most=20000), Lot))
            for standing in all_standings(game)[::7]:
                beat, trail, places = standing
                self.assertIs(threats.escapes(beat, trail[0], places), rank_from(game, standing, most=20000) is None)

    def test_most(self):
        for game in [RING, Game(line(3, 2), 2, travel="fly", late=None), Game(line(2), 4, late=None)]:
            count = len(all_standings(game))
            self.assertEqual(list(all_threats(game, most=count)), list(all_threats(game, most=20000)))
            self.fails(TooMany(count), all_threats, game, most=count - 1)
        self.assertEqual(len(all_standings(RING)), 28)
        self.fails(TooMany(28), all_threats, RING, most=1)
        small = Game(Web(["a", "b"], []), 1, late=None)
        self.fails(TooMany(2), all_threats, small, most=1)
        self.assertEqual(len(all_threats(small, most=2)), 2)
        self.assertEqual(len(all_threats(Game(Web(["a"], []), 1, travel="fly", late=None), most=1)), 0)
        # 3 ** 8 - 2 ** 8 standings for each beat.
        self.fails(TooMany(6305), all_threats, Game(full(8), 8, travel="fly", late=None))
        self.fails(TooMany(25220), all_threats, Game(full(8, 4), 8, travel="fly", late=None), most=20000)

    def test_wrong(self):
        for most in (0, -1, 20001):
            self.fails(BadNumber(most), all_threats, Game(full(8), 8, travel="fly", late=None), most=most)
            self.fails(NotUnseen(), all_threats, RING.changed(late=1), most=most)
        for late in (0, 1, 2, 3):
            self.fails(NotUnseen(), all_threats, RING.changed(late=late))


if __name__ == "__main__":
    unittest.main()
