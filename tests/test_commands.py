"""Points [79] and [80]: commands for a desk."""

import random
import unittest

from helpers import Case, content, line, ring
from playing import next_deeds, some_games, tells, tells_after
from tagwebs.commands import play, replay, would
from tagwebs.desks import Desk
from tagwebs.errors import (
    BadCommand, BadNumber, BadPost, CannotRun, CannotSend, NothingToRedo, NothingToUndo, NotFree, NotNow, TagError, UnknownName,
)
from tagwebs.games import Game
from tagwebs.webs import Web
from test_desks import desks_in_all_turns

WALK = Game(line(3), 1)
FLY = Game(line(3), 2, travel="fly")


def steps(desk):
    """All that a desk tells now, after each undo, and after each redo."""
    found = [tells(desk)]
    many = 0
    while True:
        try:
            desk.undo()
        except NothingToUndo:
            break
        many += 1
        found.append(tells(desk))
    for _ in range(many):
        desk.redo()
    more = 0
    while True:
        try:
            desk.redo()
        except NothingToRedo:
            break
        more += 1
        found.append(tells(desk))
    for _ in range(more):
        desk.undo()
    return found


class Commands(Case):
    def wrong(self, number, why, call, *args, **more):
        """The call raises BadCommand with this line and this error, or None, from it."""
        with self.assertRaises(BadCommand) as caught:
            call(*args, **more)
        error = caught.exception
        self.assertEqual(error.number, number)
        self.assertEqual(sorted(vars(error)), ["number", "why"])
        if why is None:
            self.assertIsNone(error.why)
            self.assertIsNone(error.__cause__)
            return
        self.assertIs(type(error.why), type(why))
        self.assertEqual(vars(error.why), vars(why))
        self.assertIs(error.__cause__, error.why)


class Play(Commands):
    def test_example(self):
        desk = Desk(Game(Web.tied(["a", "b", "c"], [("a", "b"), ("b", "c")]), 1, late=None))
        self.assertEqual(
            [play(desk, "begin b\nhide c\nsend a\nrun c"), desk.possible, desk.runner, would(desk, "send b\nrun c\nsend c")],
            [4, (1, 2), 2, ("over", 3, (2,), None, None, ())])

    def test_no_commands(self):
        desk = Desk(WALK)
        for whole in (False, True):
            self.assertEqual(play(desk, "", whole=whole), 0)
            self.wrong(1, None, play, desk, "\n", whole=whole)
            self.wrong(1, None, play, desk, " ", whole=whole)
        self.assertEqual(tells(desk), tells(Desk(WALK)))

    def test_each_command(self):
        desk = Desk(Game(line(4), 2))
        for line_, turn in [("begin c a", "hide"), ("hide b", "send"), ("send d a", "run"), ("undo", "send"), ("redo", "run"),
                            ("run b", "send"), ("send c b", "over"), ("undo", "send")]:
            self.assertEqual(play(desk, line_), 1)
            self.assertEqual(desk.turn, turn)
        self.assertEqual(desk.log, ("begin a c", "hide b", "send a d", "run b"))

    def test_names_twice(self):
        desk = Desk(Game(line(3), 3))
        play(desk, "begin b a b\nhide c")
        self.assertEqual((desk.here, desk.log[0]), ((0, 1, 1), "begin a b b"))
        fly = Desk(FLY)
        self.wrong(1, BadPost((1, 1)), play, fly, "begin b b")
        play(fly, "begin c a\nhide b")
        self.wrong(1, CannotSend((1, 1)), play, fly, "send b b")

    def test_rows_without_names(self):
        fly = Desk(FLY)
        self.assertEqual(play(fly, "begin\nhide a\nsend\nrun b"), 4)
        self.assertEqual((fly.here, fly.runner), ((), 1))
        walk = Desk(WALK)
        self.wrong(1, BadPost(()), play, walk, "begin")
        play(walk, "begin b\nhide a")
        self.wrong(1, CannotSend(()), play, walk, "send")
        self.wrong(1, NotNow("send"), play, walk, "begin")

    def test_no_commands_at_all(self):
        wrong = [
            "", " ", "begin ", "begin  a", " begin a", "begin a ", "Begin a", "start a", "hide", "hide ", "hide a b", "hide  a", "run", "run a b",
            "run ", "send ", "send  a", "undo ", "undo a", " undo", "redo redo", "UNDO", "beginn a", "begin\ta", "unknown", "a", "go a",
            "end", "begin a  b", "hide a ", "run  a",
        ]
        for text in wrong:
            for whole in (False, True):
                for game in (WALK, FLY):
                    desk = Desk(game)
                    self.wrong(1, None, play, desk, text + "\nundo", whole=whole)
                    self.wrong(2, None, play, desk, "begin c\n" + text + "\nwrong", whole=whole)
                    self.assertEqual(desk.turn, "begin" if whole else "hide")
        # The form of a line is looked at first, also where nothing could be done in this turn.
        for desk in desks_in_all_turns().values():
            self.wrong(1, None, play, desk, "hide")
            self.wrong(1, None, play, desk, "begin a  b")

    def test_unknown_names(self):
        for desk in desks_in_all_turns().values():
            for word in ("begin", "hide", "send", "run"):
                for name in ("x", "A", "ab", "a1", "abcdefghijkl", "-", "a,b", "\t", "undo"):
                    self.wrong(1, UnknownName(name), play, desk, f"{word} {name}")
        desk = Desk(Game(line(3), 2))
        self.wrong(1, UnknownName("y"), play, desk, "begin a y x")
        self.wrong(1, UnknownName("z"), play, desk, "send z y")

    def test_what_the_methods_raise(self):
        desks = desks_in_all_turns()
        for turn, desk in desks.items():
            for word in ("begin", "hide", "send", "run"):
                if word != turn:
                    self.wrong(1, NotNow(turn), play, desk, f"{word} a")
        self.wrong(1, NotFree(1), play, desks["hide"], "hide b")
        self.wrong(1, BadPost((0, 1)), play, desks["begin"], "begin b a")
        self.wrong(1, CannotSend((0, 2)), play, desks["send"], "send a c")
        self.wrong(1, CannotRun(2), play, desks["run"], "run c")
        self.wrong(1, NothingToUndo(), play, desks["begin"], "undo")
        self.wrong(1, NothingToRedo(), play, desks["over"], "redo")

    def test_lines_before_a_wrong_one_stay_done(self):
        desk = Desk(WALK)
        self.wrong(3, CannotSend((2,)), play, desk, "begin a\nhide c\nsend c\nsend b\nwrong")
        self.assertEqual(desk.log, ("begin a", "hide c"))
        self.wrong(2, None, play, desk, "send b\n\nrun c")
        self.assertEqual(desk.log, ("begin a", "hide c", "send b"))
        self.wrong(3, UnknownName("x"), play, desk, "undo\nundo\nhide x")
        self.assertEqual(desk.log, ("begin a",))
        self.assertEqual(play(desk, "redo\nredo"), 2)

    def test_last_newline(self):
        desk = Desk(WALK)
        self.wrong(3, None, play, desk, "begin a\nhide b\n")
        self.assertEqual(desk.turn, "send")

    def test_whole(self):
        desk = Desk(WALK)
        self.assertEqual(play(desk, "begin a\nhide c\nsend b\nundo", whole=True), 4)
        self.assertEqual(desk.log, ("begin a", "hide c"))
        held = steps(desk)
        self.assertEqual(len(held), 4)
        for number, why, text in [
            (2, CannotRun(0), "redo\nrun a"), (3, None, "undo\nundo\nwrong"), (3, NothingToUndo(), "undo\nundo\nundo"),
            (3, NothingToRedo(), "send b\nrun c\nredo"), (1, None, "wrong"), (2, UnknownName("z"), "undo\nhide z"),
            (5, NotNow("begin"), "undo\nundo\nbegin b\nundo\nhide c"),
        ]:
            self.wrong(number, why, play, desk, text, whole=True)
            self.assertEqual(steps(desk), held)
            self.wrong(number, why, would, desk, text)
            self.assertEqual(steps(desk), held)

    def test_whole_that_undoes_more_than_the_text_did(self):
        desk = Desk(WALK)
        play(desk, "begin a\nhide c\nsend b\nrun c\nundo")
        held, inside = steps(desk), content(desk)
        for number, why, text in [
            (4, NothingToUndo(), "undo\nundo\nundo\nundo"), (4, NotNow("begin"), "undo\nundo\nundo\nhide c"),
            (4, NotNow("send"), "undo\nundo\nhide b\nhide b"), (5, NothingToRedo(), "undo\nundo\nhide b\nsend a\nredo"),
        ]:
            self.wrong(number, why, play, desk, text, whole=True)
            self.assertEqual(steps(desk), held)
            self.assertEqual(content(desk), inside)
        # Without whole it stays as the last good line left it.
        self.wrong(4, NotNow("begin"), play, desk, "undo\nundo\nundo\nhide c")
        self.assertEqual(desk.turn, "begin")
        self.assertEqual(play(desk, "redo\nredo\nredo\nredo"), 4)

    def test_whole_with_little_memory(self):
        # What is done for good in a text that fails is not lost either.
        desk = Desk(WALK, memory=1)
        play(desk, "begin a\nhide c")
        held = steps(desk)
        self.wrong(4, None, play, desk, "send b\nrun c\nsend b\nwrong", whole=True)
        self.assertEqual(steps(desk), held)
        self.assertEqual(play(desk, "send b\nrun c", whole=True), 2)
        self.wrong(2, NothingToUndo(), play, desk, "undo\nundo", whole=True)
        self.assertEqual(desk.turn, "send")
        self.assertEqual(play(desk, "undo"), 1)

    def test_all(self):
        chance = random.Random(451)
        for game in some_games(chance, 60, 452):
            deeds, lines = [], []
            while len(deeds) < 9:
                ways = next_deeds(game, deeds)
                if not ways:
                    break
                deeds.append(chance.choice(ways))
                word, value = deeds[-1]
                places = [game.web.places[place] for place in (value if isinstance(value, tuple) else (value,))]
                chance.shuffle(places)
                lines.append(" ".join([word, *places]))
            for whole in (False, True):
                desk = Desk(game)
                self.assertEqual(play(desk, "\n".join(lines), whole=whole), len(lines))
                self.assertEqual(tells(desk), tells_after(game, deeds))
            back = "\n".join([*lines, *["undo"] * (len(lines) - 1), *["redo"] * (len(lines) - 1)])
            desk = Desk(game)
            self.assertEqual(play(desk, back), 3 * len(lines) - 2)
            self.assertEqual(tells(desk), tells_after(game, deeds))


class Would(Commands):
    def test_what_it_returns(self):
        for late in (0, 1, None):
            game = Game(line(4), 1, late=late)
            desk = Desk(game)
            for text in ("", "begin a", "begin a\nhide c", "begin a\nhide c\nsend b", "begin a\nhide c\nsend b\nrun d",
                         "begin a\nhide c\nundo\nhide d\nsend b\nrun c\nsend c"):
                other = Desk(game)
                play(other, text)
                held = steps(desk)
                self.assertEqual(would(desk, text), (other.turn, other.played, other.here, other.runner, other.heard, other.possible))
                self.assertEqual(steps(desk), held)

    def test_from_any_turn(self):
        for turn, desk in desks_in_all_turns().items():
            inside = content(desk)
            self.assertEqual(would(desk, "")[0], turn)
            if turn != "begin":
                self.assertNotEqual(would(desk, "undo")[0], turn)
                self.assertEqual(would(desk, "undo\nredo")[0], turn)
            self.assertEqual(content(desk), inside)

    def test_wrong(self):
        desk = Desk(WALK)
        play(desk, "begin a\nhide c\nundo")
        inside = content(desk)
        for number, why, text in [(1, None, "wrong"), (2, None, "hide c\n"), (2, CannotSend((2,)), "redo\nsend c"),
                                  (2, NothingToUndo(), "undo\nundo")]:
            self.wrong(number, why, would, desk, text)
            self.assertEqual(content(desk), inside)


class Replay(Commands):
    def test_logs(self):
        chance = random.Random(453)
        for game in some_games(chance, 60, 454):
            deeds = []
            for _ in range(8):
                ways = next_deeds(game, deeds)
                if ways:
                    deeds.append(chance.choice(ways))
            desk = Desk(game, memory=chance.choice([0, 2, 50]))
            for word, value in deeds:
                getattr(desk, word)(value)
            if deeds and desk.memory:
                desk.undo()
                desk.redo()
            other = self.keeps(replay, game, list(desk.log))
            self.assertEqual((other.game, other.memory), (game, 50))
            self.assertEqual(tells(other), tells(desk))
            self.assertEqual(tells(replay(game, desk.log, memory=0)), tells(desk))

    def test_commands(self):
        desk = replay(WALK, ["begin b", "hide a", "undo", "hide c", "undo", "redo"], memory=1)
        self.assertEqual((desk.log, desk.memory), (("begin b", "hide c"), 1))
        desk.undo()
        self.fails(NothingToUndo(), desk.undo)
        self.assertEqual(tells(replay(WALK, [])), tells(Desk(WALK)))

    def test_wrong(self):
        for row in ("", " ", "begin a\n", "begin a\nhide b", "\n", "undo\n", "hide b\n", "hide\nb", "hide b\nc", "begin \n", "wrong"):
            self.wrong(1, None, replay, WALK, [row])
            self.wrong(2, None, replay, WALK, ["begin a", row, "wrong"])
        self.wrong(2, NotFree(0), replay, WALK, ["begin a", "hide a"])
        self.wrong(3, NothingToUndo(), replay, WALK, ["begin a", "undo", "undo"])
        self.wrong(2, NothingToUndo(), replay, WALK, ["begin a", "undo"], memory=0)
        self.wrong(1, UnknownName("z"), replay, WALK, ["begin z"])
        for memory in (-1, 201):
            self.fails(BadNumber(memory), replay, WALK, ["wrong"], memory=memory)

    def test_errors_stand_under_the_base(self):
        with self.assertRaises(TagError):
            replay(Game(ring(4), 1), ["begin a", "hide a"])


if __name__ == "__main__":
    unittest.main()
