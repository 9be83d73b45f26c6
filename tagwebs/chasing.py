"""The papers that foldings give for the game of one walking seeker."""

from tagwebs.errors import BadCarry
from tagwebs.games import Game
from tagwebs.papers import Lot, Ranks


def folding_ranks(folding):
    """The Ranks of the seeker who goes after the shadows of the runner, by a whole folding."""
    if not folding.whole:
        raise BadCarry("left")
    web = folding.web
    rows = []
    for c in range(len(web)):
        for r in range(len(web)):
            level = first_level(folding, c, r)
            if c != r and level is not None:
                post = (folding.shadow(level, r),)
                rows.extend([((beat, ((c,),), (r,)), 1 + level, post) for beat in range(web.beats)])
    return Ranks(Game(web, 1), folding.left, rows)


def first_level(folding, seeker, runner):
    """The least level of a shadow of the runner's place in the steps of the seeker's place, or None."""
    steps = folding.web.steps(seeker, 0)
    levels = [level for level in range(len(folding.folds) + 1) if folding.shadow(level, runner) in steps]
    return levels[0] if levels else None


def folding_lot(folding):
    """The Lot of the runner who stays among the places that a finished folding leaves."""
    if folding.whole or not folding.finished:
        raise BadCarry("left")
    web = folding.web
    rows = []
    for c in range(len(web)):
        steps = web.steps(folding.shadow(len(folding.folds), c), 0)
        away = [r for r in folding.left if r not in steps]
        rows.extend([(beat, ((c,),), (r,)) for r in away for beat in range(web.beats)])
    return Lot(Game(web, 1), rows)
