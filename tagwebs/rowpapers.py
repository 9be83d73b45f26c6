"""The papers that rows and shut families give for the game of flying seekers who are never told of a swift runner."""

from tagwebs.errors import BadCarry
from tagwebs.games import Game
from tagwebs.papers import Lot, Ranks
from tagwebs.reaching import rim
from tagwebs.sets import has_all, others, sets_up_to


def row_ranks(row):
    """The Ranks of the seekers who send the bags of the row in turn."""
    web = row.web
    dirty = [others(row.clean(at), len(web)) for at in range(len(row.bags))]
    end = dirty.index(())
    # If a standing comes again, the row of the later moment takes the place of the earlier one.
    rows = {}
    for at in range(end):
        rows[(at % web.beats, (row.bags[at],), dirty[at])] = (end - at, row.bags[at + 1])
    ranked = [(standing, rank, post) for standing, (rank, post) in rows.items()]
    return Ranks(unseen_game(web, row.size), row.bags[0], ranked)


def shut_lot(shut):
    """The Lot of the runner who can be outside of a set of the family whose rim the seekers have to hold."""
    if shut.seekers == 0:
        raise BadCarry("seekers")
    web = shut.web
    posts = sets_up_to(len(web), shut.seekers)
    rows = []
    for clean in shut:
        edge = rim(web, clean)
        places = others(clean, len(web))
        held = [post for post in posts if has_all(clean, post) and has_all(post, edge)]
        rows.extend([(beat, (post,), places) for post in held for beat in range(web.beats)])
    return Lot(unseen_game(web, shut.seekers), rows)


def unseen_game(web, seekers):
    """The game of flying seekers who are never told of a swift runner."""
    return Game(web, seekers, travel="fly", pace="swift", late=None)
