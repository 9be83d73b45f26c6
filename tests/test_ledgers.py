"""Point [83]: the ledger."""

import random
import unittest

from helpers import Case, line
from playing import do, next_deeds, some_games
from tagwebs.desks import Desk
from tagwebs.games import Game
from tagwebs.ledgers import ledger
from tagwebs.webs import Web
from test_desks import after


class Ledger(Case):
    def test_turns(self):
        game = Game(Web.tied(["abcdefgh", "b", "cc"], [("abcdefgh", "b"), ("b", "cc")]), 2)
        head = "place    here sent run told"
        self.assertEqual(self.keeps(ledger, Desk(game)), [
            head, "abcdefgh    0    0 may    -", "b           0    0 may    -", "cc          0    0 may    -"])
        self.assertEqual(ledger(after(game, ("begin", (1, 1)))), [
            head, "abcdefgh    0    0 may    -", "b           2    0 -      -", "cc          0    0 may    -"])
        self.assertEqual(ledger(after(game, ("begin", (1, 1)), ("hide", 2))), [
            head, "abcdefgh    0    0 -      -", "b           2    0 -      -", "cc          0    0 may told"])
        self.assertEqual(ledger(after(game, ("begin", (1, 1)), ("hide", 2), ("send", (0, 1)))), [
            head, "abcdefgh    0    1 -      -", "b           2    1 -      -", "cc          0    0 may told"])
        self.assertEqual(ledger(after(game, ("begin", (1, 1)), ("hide", 2), ("send", (2, 2)))), [
            head, "abcdefgh    0    0 -      -", "b           0    0 -      -", "cc          2    0 -      -"])

    def test_told_where_it_was(self):
        # The place that is told need not be one where the runner can be now.
        desk = after(Game(line(4), 1, late=1), ("begin", (0,)), ("hide", 2), ("send", (1,)), ("run", 3), ("send", (2,)), ("run", 3))
        self.assertEqual(ledger(desk), [
            "place    here sent run told", "a           0    0 -      -", "b           0    0 -      -", "c           1    0 -      -",
            "d           0    0 may told"])
        desk = after(Game(line(4), 1, late=2), ("begin", (0,)), ("hide", 1), ("send", (0,)), ("run", 2), ("send", (1,)), ("run", 3))
        self.assertEqual(ledger(desk)[2:], ["b           1    0 -   told", "c           0    0 may    -", "d           0    0 may    -"])

    def test_all(self):
        chance = random.Random(471)
        for game in some_games(chance, 60, 472):
            desk, deeds = Desk(game), []
            for _ in range(8):
                lines = ledger(desk)
                self.assertEqual(lines[0], "place    here sent run told")
                self.assertEqual(len(lines), 1 + len(game.web))
                for place, row in enumerate(lines[1:]):
                    name, here, sent, run, told = row.split()
                    self.assertEqual(name, game.web.places[place])
                    self.assertEqual((int(here), int(sent)), ((desk.here or ()).count(place), (desk.sent or ()).count(place)))
                    self.assertEqual((run, told), ("may" if place in desk.possible else "-", "told" if place == desk.heard else "-"))
                    self.assertEqual(row, f"{name:8} {here:>4} {sent:>4} {run:3} {told:>4}")
                ways = next_deeds(game, deeds)
                if not ways:
                    break
                deeds.append(chance.choice(ways))
                do(desk, deeds[-1])


if __name__ == "__main__":
    unittest.main()
