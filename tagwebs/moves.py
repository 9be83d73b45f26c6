"""The moves of a game: which standings come up, and what ranks they have."""

from tagwebs.errors import TooMany
from tagwebs.knowing import follow, starts_of
from tagwebs.rounds import posts_of


def all_starts(game):
    """The list of the first standings of all posts."""
    return [standing for post in posts_of(game) for standing in starts_of(game, post)]


def explore(rounds, starts, most):
    """A dict of the starts and all standings that come up after them.

    Each has the list of its moves: pairs of a post, in ascending order, and the answers to it.
    """
    moves = {}
    count = 0
    ahead = list(starts)
    while ahead:
        standing = ahead.pop()
        if standing in moves:
            continue
        posts = rounds.sends(standing[0], standing[1][-1])
        count += len(posts)
        if count > most:
            raise TooMany(most)
        moves[standing] = [(post, follow(rounds, standing, post)) for post in posts]
        for _, found in moves[standing]:
            ahead.extend(found)
    return moves


def ranks_of(moves):
    """A dict of the ranks of those standings that have one, for all moves of a game."""
    lacking = {}
    askers = {standing: [] for standing in moves}
    layer = {}
    for standing, replies in moves.items():
        for post, found in replies:
            lacking[(standing, post)] = len(found)
            if not found:
                layer[standing] = True
            for answer in found:
                askers[answer].append((standing, post))
    ranks = {}
    rank = 1
    while layer:
        for standing in layer:
            ranks[standing] = rank
        layer = next_layer(layer, askers, lacking, ranks)
        rank += 1
    return ranks


def next_layer(layer, askers, lacking, ranks):
    """The standings without a rank that have a move all of whose answers have ranks now.

    It counts down in lacking, for each move, the answers that have no rank yet.
    """
    later = {}
    for standing in layer:
        for move in askers[standing]:
            lacking[move] -= 1
            if lacking[move] == 0 and move[0] not in ranks:
                later[move[0]] = True
    return later
