"""The papers that bags and sides give for the game of flying seekers who see a swift runner."""

from tagwebs.errors import BadCarry, BadNumber
from tagwebs.games import Game
from tagwebs.papers import Lot, Ranks
from tagwebs.sets import others


def bags_ranks(bags, root=0):
    """The Ranks of the seekers who go from bag to bag toward the runner, from the bag root on."""
    if not 0 <= root < len(bags.bags):
        raise BadNumber(root)
    web = bags.web
    rows = []
    for bag in sorted(set(bags.bags)):
        for r in others(bag, len(web)):
            height, post = best_way(bags, bag, r)
            rows.extend([((beat, (bag,), (r,)), height, post) for beat in range(web.beats)])
    return Ranks(Game(web, bags.size, travel="fly", pace="swift"), bags.bags[root], rows)


def best_way(bags, bag, place):
    """The least height behind a bag equal to this one, toward a place outside of it, and the bag next to it there."""
    ways = []
    for index, same in enumerate(bags.bags):
        if same == bag:
            ahead = bags.toward(index, place)
            ways.append((bags.height(ahead, index), index, bags.bags[ahead]))
    height, _, post = min(ways)
    return (height, post)


def sides_lot(sides):
    """The Lot of the runner who stays in the sides."""
    if sides.seekers == 0:
        raise BadCarry("seekers")
    web = sides.web
    rows = []
    for post, side in sides.rows():
        rows.extend([(beat, (post,), (r,)) for r in side for beat in range(web.beats)])
    return Lot(Game(web, sides.seekers, travel="fly", pace="swift"), rows)
