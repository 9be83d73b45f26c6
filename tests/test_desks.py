"""Points [76] to [78] and [81]: the desk."""

import random
import unittest

from helpers import Case, full, line, oneway, ring, web_of
from playing import LATES, do, next_deeds, some_games, tells, tells_after
from tagwebs.desks import Desk
from tagwebs.errors import (
    BadNumber, BadPost, CannotRun, CannotSend, NothingToRedo, NothingToUndo, NotFree, NotNow, UnknownPlace,
)
from tagwebs.games import Game
from tagwebs.standings import answers, first_standings, is_standing
from tagwebs.webs import Web

DOORS = web_of(3, 2, {(0, 0, 1), (0, 1, 0), (1, 1, 2), (1, 2, 1)})


def after(game, *deeds, memory=50):
    """A desk on which these deeds, pairs of a word and a post or a place, have been done."""
    desk = Desk(game, memory=memory)
    for deed in deeds:
        do(desk, deed)
    return desk


def desks_in_all_turns(game=Game(line(3), 1)):
    """A desk in each turn."""
    deeds = [("begin", (1,)), ("hide", 0), ("send", (2,)), ("run", 0)]
    desks = {after(game, *deeds[:many]).turn: after(game, *deeds[:many]) for many in (0, 1, 2, 3)}
    desks["over"] = after(game, *deeds[:2], ("send", (0,)))
    return desks


class Telling(Case):
    def test_new(self):
        game = Game(line(3, 2), 1, late=1)
        desk = Desk(game)
        self.assertEqual((desk.game, desk.memory), (game, 50))
        self.assertEqual(tells(desk), {
            "turn": "begin", "played": 0, "beat": 0, "here": None, "sent": None, "runner": None, "knows": None, "heard": None,
            "possible": (0, 1, 2), "log": (), "caught": False})

    def test_memory(self):
        game = Game(line(2), 1)
        for memory in (0, 1, 200):
            self.assertEqual(Desk(game, memory=memory).memory, memory)
        for memory in (-1, 201, 10 ** 9):
            self.fails(BadNumber(memory), Desk, game, memory=memory)

    def test_a_game(self):
        desk = Desk(Game(line(4, 2), 1, late=1))
        told = {"turn": "hide", "played": 0, "beat": 0, "here": (1,), "sent": None, "runner": None, "knows": None, "heard": None,
                "possible": (0, 2, 3), "log": ("begin b",), "caught": False}
        self.assertIsNone(desk.begin((1,)))
        self.assertEqual(tells(desk), told)
        self.assertIsNone(desk.hide(3))
        told.update(turn="send", runner=3, knows=(0, ((1,),), (0, 2, 3)), log=("begin b", "hide d"))
        self.assertEqual(tells(desk), told)
        self.assertIsNone(desk.send((2,)))
        told.update(turn="run", sent=(2,), log=("begin b", "hide d", "send c"))
        self.assertEqual(tells(desk), told)
        self.assertIsNone(desk.run(3))
        told.update(turn="send", played=1, beat=1, here=(2,), sent=None, knows=(1, ((1,), (2,)), (3,)), heard=3, possible=(3,),
                    log=("begin b", "hide d", "send c", "run d"))
        self.assertEqual(tells(desk), told)
        self.assertIsNone(desk.send((3,)))
        told.update(turn="over", played=2, beat=0, here=(3,), runner=None, knows=None, heard=None, possible=(),
                    log=("begin b", "hide d", "send c", "run d", "send d"), caught=True)
        self.assertEqual(tells(desk), told)

    def test_no_free_place(self):
        for game, post, row in [(Game(Web(["abc"], []), 2), (0, 0), "begin abc abc"),
                                (Game(line(2, 3), 2, travel="fly", late=None), (0, 1), "begin a b")]:
            desk = after(game, ("begin", post))
            self.assertEqual(tells(desk), {
                "turn": "over", "played": 0, "beat": 0, "here": post, "sent": None, "runner": None, "knows": None, "heard": None,
                "possible": (), "log": (row,), "caught": True})

    def test_rows_without_places(self):
        desk = after(Game(line(3), 1, travel="fly"), ("begin", ()), ("hide", 1), ("send", ()), ("run", 2))
        self.assertEqual((desk.log, desk.here, desk.possible), (("begin", "hide b", "send", "run c"), (), (2,)))

    def test_told_later(self):
        game = Game(line(5), 1, late=3)
        desk = after(game, ("begin", (0,)), ("hide", 4))
        heard = []
        for place in (3, 2, 2, 3):
            heard.append((desk.heard, len(desk.knows[1]), len(desk.knows[2])))
            do(desk, ("send", (0,)))
            self.assertEqual(desk.heard, heard[-1][0])
            do(desk, ("run", place))
        heard.append((desk.heard, len(desk.knows[1]), len(desk.knows[2])))
        self.assertEqual(heard, [(None, 1, 4), (None, 2, 4), (None, 3, 4), (4, 4, 1), (3, 4, 1)])
        self.assertEqual(desk.possible, (1, 2, 3, 4))

    def test_never_told(self):
        desk = after(Game(line(3), 1, late=None), ("begin", (1,)), ("hide", 2), ("send", (0,)), ("run", 2))
        self.assertEqual((desk.knows, desk.heard, desk.possible, desk.runner), ((0, ((0,),), (1, 2)), None, (1, 2), 2))

    def test_all(self):
        chance = random.Random(441)
        ends = {turn: 0 for turn in ("hide", "send", "run", "over")}
        for game in some_games(chance, 120, 442):
            desk, deeds = Desk(game), []
            self.assertEqual(tells(desk), tells_after(game, deeds))
            for _ in range(1 + chance.randrange(12)):
                ways = next_deeds(game, deeds)
                if not ways:
                    break
                deeds.append(chance.choice(ways))
                before = desk.knows
                do(desk, deeds[-1])
                self.assertEqual(tells(desk), tells_after(game, deeds))
                self.follows(desk, deeds, before)
            ends[desk.turn] += 1
        self.assertGreater(min(ends.values()), 5)

    def follows(self, desk, deeds, before):
        """What point [81] says."""
        game, word = desk.game, deeds[-1][0]
        self.assertEqual(len(desk.log), len(deeds))
        if desk.knows is not None:
            self.assertTrue(is_standing(game, desk.knows))
        if desk.runner is not None:
            self.assertIn(desk.runner, desk.possible)
        if word == "begin":
            self.assertIs(desk.caught, first_standings(game, deeds[0][1]) == [])
        if word == "hide":
            self.assertIn(desk.knows, first_standings(game, desk.here))
        if word == "run":
            self.assertIn(desk.knows, answers(game, before, desk.here))
        if word == "send" and answers(game, before, deeds[-1][1]) == []:
            self.assertTrue(desk.caught)

    def test_all_deeds_that_are_possible(self):
        # In each turn exactly those deeds can be done that the document tells.
        chance = random.Random(443)
        for game in some_games(chance, 30, 444, 3):
            deeds = []
            for _ in range(6):
                ways = next_deeds(game, deeds)
                tried = [("begin", post) for post in game.posts()] + [("send", post) for post in game.posts()]
                tried += [(word, place) for word in ("hide", "run") for place in range(-1, len(game.web) + 1)]
                for deed in tried:
                    desk = after(game, *deeds)
                    held = tells(desk)
                    try:
                        do(desk, deed)
                    except (NotNow, UnknownPlace, NotFree, CannotSend, CannotRun):
                        self.assertNotIn(deed, ways)
                        self.assertEqual(tells(desk), held)
                    else:
                        self.assertIn(deed, ways)
                if not ways:
                    break
                deeds.append(chance.choice(ways))

    def test_nothing_told_can_be_changed(self):
        game = Game(line(3), 1)
        desk = after(game, ("begin", (1,)), ("hide", 0))
        for value in tells(desk).values():
            self.assertNotIsInstance(value, (list, dict, set))


class Wrong(Case):
    def test_turns(self):
        deeds = {"begin": ("begin", (9,)), "hide": ("hide", 9), "send": ("send", (9,)), "run": ("run", 9)}
        for turn, desk in desks_in_all_turns().items():
            self.assertEqual(desk.turn, turn)
            for word, deed in deeds.items():
                if word != turn:
                    self.fails(NotNow(turn), getattr(desk, word), deed[1])

    def test_posts(self):
        desk = Desk(Game(line(3), 2))
        for post in [(), (0,), (1, 0), (0, 3), (-1, 0), (0, 1, 2)]:
            self.fails(BadPost(post), desk.begin, post)
        fly = Desk(Game(line(3), 2, travel="fly"))
        for post in [(0, 0), (1, 0), (0, 1, 2), (3,)]:
            self.fails(BadPost(post), fly.begin, post)

    def test_hiding(self):
        desk = after(Game(line(4), 2), ("begin", (1, 2)))
        for place in (-1, 4, 99):
            self.fails(UnknownPlace(place), desk.hide, place)
        for place in (1, 2):
            self.fails(NotFree(place), desk.hide, place)

    def test_sending(self):
        desk = after(Game(line(4), 1), ("begin", (0,)), ("hide", 3))
        for post in [(2,), (3,), (4,), (), (0, 1), (-1,)]:
            self.fails(CannotSend(post), desk.send, post)
        doors = after(Game(DOORS, 1), ("begin", (1,)), ("hide", 0))
        self.fails(CannotSend((2,)), doors.send, (2,))
        do(doors, ("send", (1,)))
        do(doors, ("run", 0))
        self.fails(CannotSend((0,)), doors.send, (0,))
        do(doors, ("send", (2,)))
        fly = after(Game(line(4), 2, travel="fly"), ("begin", ()), ("hide", 3))
        for post in [(0, 0), (1, 0), (0, 1, 2), (4,)]:
            self.fails(CannotSend(post), fly.send, post)

    def test_running(self):
        desk = after(Game(line(5), 1), ("begin", (0,)), ("hide", 2), ("send", (1,)))
        for place in (-1, 5, 99):
            self.fails(UnknownPlace(place), desk.run, place)
        for place in (0, 1, 4):
            self.fails(CannotRun(place), desk.run, place)
        do(desk, ("run", 3))
        swift = after(Game(line(5), 1, pace="swift"), ("begin", (0,)), ("hide", 2), ("send", (1,)))
        self.fails(CannotRun(0), swift.run, 0)
        do(swift, ("run", 4))

    def test_beats(self):
        desk = after(Game(DOORS, 1), ("begin", (2,)), ("hide", 0), ("send", (2,)), ("run", 1))
        do(desk, ("send", (2,)))
        self.fails(CannotRun(0), desk.run, 0)


class Undoing(Case):
    def test_nothing(self):
        desk = Desk(Game(line(3), 1))
        self.fails(NothingToUndo(), desk.undo)
        self.fails(NothingToRedo(), desk.redo)
        do(desk, ("begin", (0,)))
        self.fails(NothingToRedo(), desk.redo)
        self.assertIsNone(desk.undo())
        self.fails(NothingToUndo(), desk.undo)
        self.assertIsNone(desk.redo())
        self.fails(NothingToRedo(), desk.redo)

    def test_memory(self):
        game = Game(ring(4), 1)
        for memory in (0, 1, 2, 5, 50, 200):
            desk = after(game, ("begin", (0,)), ("hide", 2), memory=memory)
            told = [tells(Desk(game)), tells(after(game, ("begin", (0,)))), tells(desk)]
            for _ in range(105):
                for deed in [("send", (0,)), ("run", 2)]:
                    do(desk, deed)
                    told.append(tells(desk))
            for many in range(min(memory, 212)):
                desk.undo()
                self.assertEqual(tells(desk), told[-2 - many])
            self.fails(NothingToUndo(), desk.undo)
            self.assertEqual(len(desk.log), 212 - memory)
            for many in range(memory, 0, -1):
                desk.redo()
                self.assertEqual(tells(desk), told[-many])
            self.fails(NothingToRedo(), desk.redo)

    def test_oldest_deeds_stay_done_for_good(self):
        # The memory counts deeds that can be taken back: what was taken back does not free older ones.
        desk = after(Game(ring(4), 1), ("begin", (0,)), ("hide", 2), ("send", (0,)), ("run", 2), memory=2)
        desk.undo()
        desk.undo()
        self.fails(NothingToUndo(), desk.undo)
        desk.redo()
        desk.redo()
        do(desk, ("send", (0,)))
        desk.undo()
        desk.undo()
        self.fails(NothingToUndo(), desk.undo)
        self.assertEqual(desk.log, ("begin a", "hide c", "send a"))

    def test_behind_a_new_deed(self):
        desk = after(Game(ring(4), 1), ("begin", (0,)), ("hide", 2))
        desk.undo()
        do(desk, ("hide", 1))
        self.fails(NothingToRedo(), desk.redo)
        self.assertEqual((desk.runner, desk.log), (1, ("begin a", "hide b")))
        # A deed that fails is none.
        desk.undo()
        self.fails(NotFree(0), desk.hide, 0)
        desk.redo()
        self.assertEqual(desk.runner, 1)

    def test_through_the_end(self):
        desk = after(Game(line(3), 1), ("begin", (1,)), ("hide", 0))
        before = tells(desk)
        do(desk, ("send", (0,)))
        told = tells(desk)
        self.assertEqual((desk.turn, desk.caught), ("over", True))
        for _ in range(3):
            desk.undo()
            self.assertEqual(tells(desk), before)
            desk.redo()
            self.assertEqual(tells(desk), told)
        desk.undo()
        do(desk, ("send", (1,)))
        self.assertEqual((desk.turn, desk.caught), ("run", False))
        at_once = after(Game(line(2), 2), ("begin", (0, 1)))
        at_once.undo()
        self.assertEqual(at_once.turn, "begin")
        at_once.redo()
        self.assertTrue(at_once.caught)

    def test_all(self):
        chance = random.Random(445)
        seen = [0, 0, 0]
        for game in some_games(chance, 60, 446):
            memory = chance.choice([0, 1, 3, 50])
            desk, past, future, open_deeds = Desk(game, memory=memory), [], [], 0
            for _ in range(25):
                what = chance.randrange(10)
                if what < 3:
                    seen[0] += open_deeds > 0
                    if open_deeds == 0:
                        self.fails(NothingToUndo(), desk.undo)
                    else:
                        desk.undo()
                        future.append(past.pop())
                        open_deeds -= 1
                elif what < 5:
                    seen[1] += bool(future)
                    if not future:
                        self.fails(NothingToRedo(), desk.redo)
                    else:
                        desk.redo()
                        past.append(future.pop())
                        open_deeds += 1
                else:
                    ways = next_deeds(game, past)
                    if ways:
                        seen[2] += bool(future)
                        past, future, open_deeds = [*past, chance.choice(ways)], [], min(memory, open_deeds + 1)
                        do(desk, past[-1])
                self.assertEqual(tells(desk), tells_after(game, past))
        self.assertGreater(min(seen), 30)


class LongGames(Case):
    def test_many_rounds(self):
        desk = after(Game(full(3, 4), 1, late=2), ("begin", (0,)), ("hide", 1), memory=200)
        for _ in range(150):
            do(desk, ("send", (0,)))
            do(desk, ("run", 1))
        self.assertEqual((desk.played, desk.beat, len(desk.log), desk.heard), (150, 2, 302, 1))

    def test_one_way_passages(self):
        desk = after(Game(oneway(4), 1, late=None), ("begin", (0,)), ("hide", 2), ("send", (1,)))
        self.fails(CannotRun(1), desk.run, 1)
        do(desk, ("run", 3))
        self.assertEqual(desk.possible, (0, 2, 3))

    def test_the_late_of_each_kind(self):
        for late in LATES:
            desk = after(Game(line(4), 1, late=late), ("begin", (0,)), ("hide", 2), ("send", (0,)), ("run", 3), ("send", (1,)), ("run", 3))
            self.assertEqual(desk.heard, {0: 3, 1: 3, 2: 2}.get(late))


if __name__ == "__main__":
    unittest.main()
