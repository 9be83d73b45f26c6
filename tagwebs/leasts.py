"""The least numbers of seekers who surely catch the runner."""

from tagwebs.checking import check_most
from tagwebs.deciding import decide
from tagwebs.games import Game
from tagwebs.papers import Ranks


class Least:
    """The least number of seekers, with the papers that show it."""

    def __init__(self, number, ranks, lot):
        self.number = number
        self.ranks = ranks
        self.lot = lot


def least(web, *, travel="walk", pace="step", late=0, most=6000):
    """The Least of the games on this web with these arguments."""
    game = Game(web, 1, travel=travel, pace=pace, late=late)
    check_most(most)
    lot = None
    for number in range(1, (4 if travel == "walk" else 8) + 1):
        paper = decide(game.changed(seekers=number), most=most)
        if isinstance(paper, Ranks):
            return Least(number, paper, lot)
        lot = paper
    return Least(None, None, lot)


def least_numbers(web, *, most=6000):
    """The list of the tuples (travel, pace, late, number) for the twelve usual ways to play."""
    found = []
    for travel in ("walk", "fly"):
        for pace in ("step", "swift"):
            for late in (0, 1, None):
                number = least(web, travel=travel, pace=pace, late=late, most=most).number
                found.append((travel, pace, late, number))
    return found
