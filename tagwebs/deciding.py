"""Deciding games."""

from tagwebs.checking import check_most
from tagwebs.moves import explore, ranks_of
from tagwebs.papers import Lot, Ranks
from tagwebs.rounds import Rounds, posts_of
from tagwebs.standings import check_standing
from tagwebs.tables import Table


def decide(game, *, most=6000):
    """The Ranks or the Lot of a game."""
    table = Table(game, most=most)
    first = best_post(game, table)
    if first is None:
        return Lot(game, [standing for standing in table if table.rank(standing) is None])
    ranked = [standing for standing in table if table.rank(standing) is not None]
    return Ranks(game, first, [(standing, table.rank(standing), table.least_post(standing)) for standing in ranked])


def best_post(game, table):
    """The least of the posts with the least rounds, or None if the runner can get away from each post."""
    found = [(table.longest(post), post) for post in posts_of(game)]
    sure = [pair for pair in found if pair[0] is not None]
    return min(sure)[1] if sure else None


def rank_from(game, standing, *, most=6000):
    """The rank of any standing of the game, or None if it has none."""
    rounds = Rounds(game)
    check_standing(rounds, standing)
    check_most(most)
    return ranks_of(explore(rounds, [standing], most)).get(standing)
