"""Papers of games on webs that stand side by side, of seekers who walk and see the runner."""

from tagwebs.errors import BadCarry
from tagwebs.games import Game
from tagwebs.papers import Lot, Ranks
from tagwebs.parts import old_numbers
from tagwebs.rounds import posts_of, with_one


def apart_ranks(join, first, second):
    """The Ranks of the joined web in which those go who are in the web of the runner, and the others stay."""
    check_apart(join)
    pace = first.game.pace
    if not is_walk_on(first.game, join.first, pace):
        raise BadCarry("first")
    if not is_walk_on(second.game, join.second, pace):
        raise BadCarry("second")
    seekers = first.game.seekers + second.game.seekers
    if seekers > 4:
        raise BadCarry("seekers")
    first_stay = old_numbers(join.firsts, first.first)
    second_stay = old_numbers(join.seconds, second.first)
    rows = [*moved_rows(first, join.firsts, second_stay), *moved_rows(second, join.seconds, first_stay)]
    return Ranks(Game(join.web, seekers, pace=pace), (*first_stay, *second_stay), rows)


def moved_rows(ranks, numbers, stay):
    """The rows of a Ranks, with the numbers of the joined web, while the others stay at these places."""
    rows = []
    for (beat, trail, places), rank, send in ranks.rows():
        post = joined_post(numbers, trail[0], stay)
        rows.append(((beat, (post,), old_numbers(numbers, places)), rank, joined_post(numbers, send, stay)))
    return rows


def joined_post(numbers, post, stay):
    """The post of the seekers of a post in one of the webs and of those who stay in the other."""
    return tuple(sorted([*old_numbers(numbers, post), *stay]))


def apart_lot(join, first, second, *, pace="step"):
    """The Lot of the joined web: the runner is where the seekers in its web are no more than its paper withstands."""
    check_apart(join)
    if pace not in ("step", "swift"):
        raise BadCarry("pace")
    if first is not None and not is_walk_on(first.game, join.first, pace):
        raise BadCarry("first")
    if second is not None and not is_walk_on(second.game, join.second, pace):
        raise BadCarry("second")
    seekers = withstood(first) + withstood(second) + 1
    if seekers > 4:
        raise BadCarry("seekers")
    game = Game(join.web, seekers, pace=pace)
    rows = []
    for post in posts_of(game):
        for beat in range(join.web.beats):
            places = [*open_places(first, join.firsts, beat, post), *open_places(second, join.seconds, beat, post)]
            rows.extend([(beat, (post,), (place,)) for place in places])
    return Lot(game, rows)


def check_apart(join):
    """Raise BadCarry unless the two webs stand side by side."""
    if join.kind != "apart":
        raise BadCarry("kind")


def is_walk_on(game, web, pace):
    """True if in this game seekers on this web walk and see a runner of this pace."""
    return game.web == web and game.travel == "walk" and game.late == 0 and game.pace == pace


def withstood(lot):
    """The number of seekers from whom the runner gets away by a Lot, 0 if this is None."""
    return 0 if lot is None else lot.game.seekers


def open_places(lot, numbers, beat, post):
    """The places of one of the two webs, by their new numbers, at which the runner can be beside a post of both."""
    held = tuple([numbers.index(place) for place in post if place in numbers])
    if len(held) == 0:
        return list(numbers)
    if len(held) > withstood(lot):
        return []
    posts = padded(held, withstood(lot))
    return [place for at, place in enumerate(numbers) if any([(beat, (full,), (at,)) in lot for full in posts])]


def padded(post, seekers):
    """The ascending list of the posts of so many seekers that have this post and more of its places."""
    posts = [post]
    for _ in range(seekers - len(post)):
        posts = sorted(set([with_one(one, place) for one in posts for place in post]))
    return posts
