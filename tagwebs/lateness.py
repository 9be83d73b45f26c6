"""How late the seekers can be told where the runner was."""

from tagwebs.deciding import decide
from tagwebs.papers import Lot


class Lateness:
    """The greatest number of rounds that the seekers can be told late, with the papers that show it."""

    def __init__(self, number, ranks, lot):
        self.number = number
        self.ranks = ranks
        self.lot = lot


def lateness(game, *, most=6000):
    """The Lateness of a game, whatever its own late is."""
    ranks = None
    for late in range(4):
        paper = decide(game.changed(late=late), most=most)
        if isinstance(paper, Lot):
            return Lateness(late - 1, ranks, paper)
        ranks = paper
    return Lateness(3, ranks, None)
