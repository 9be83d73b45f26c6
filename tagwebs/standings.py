"""Standings: all that the seekers know at a moment."""

from tagwebs.checking import check_most
from tagwebs.errors import CannotSend, UnknownStanding
from tagwebs.games import check_post
from tagwebs.knowing import follow, is_known, now_at, starts_of
from tagwebs.moves import all_starts, explore
from tagwebs.rounds import Rounds


def now_places(game, standing):
    """The set of the places at which the runner can be now."""
    rounds = Rounds(game)
    check_standing(rounds, standing)
    return now_at(rounds, standing)


def is_standing(game, standing):
    """True if the tuple has the form of a standing of the game."""
    return is_known(Rounds(game), standing)


def first_standings(game, post):
    """The ascending list of the standings in which the seekers can be at moment 0 with this post."""
    check_post(game, post)
    return starts_of(game, post)


def answers(game, standing, post):
    """The ascending list of the standings after a round in which the seekers send this post."""
    rounds = Rounds(game)
    check_standing(rounds, standing)
    if not rounds.can_send(standing[0], standing[1][-1], post):
        raise CannotSend(post)
    return follow(rounds, standing, post)


def standings(game, *, most=6000):
    """The ascending list of all standings that come up in the game."""
    check_most(most)
    return sorted(list(explore(Rounds(game), all_starts(game), most)))


def check_standing(rounds, standing):
    """Raise UnknownStanding unless the tuple is a standing of the game."""
    if not is_known(rounds, standing):
        raise UnknownStanding(standing)
