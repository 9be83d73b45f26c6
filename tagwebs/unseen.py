"""Seekers who are told nothing: what they can do, and how the runner can run."""

from tagwebs.checking import check_unseen
from tagwebs.deciding import decide
from tagwebs.errors import CannotSend
from tagwebs.games import check_post
from tagwebs.knowing import follow, starts_of
from tagwebs.papers import Lot
from tagwebs.rounds import Rounds, free_places


def shortest_plan(game, *, most=6000):
    """The least of the shortest lists of posts with which the runner is surely caught, or None."""
    check_unseen(game)
    paper = decide(game, most=most)
    if isinstance(paper, Lot):
        return None
    rounds = Rounds(game)
    posts = [paper.first]
    ahead = starts_of(game, paper.first)
    while ahead:
        # Nothing is told, so there is one standing at most.
        post = paper.send(ahead[0])
        posts.append(post)
        ahead = follow(rounds, ahead[0], post)
    return posts


def possible_after(game, posts):
    """The list of the sets of the places at which the runner can be at each moment, not caught."""
    rounds = Rounds(game)
    check_posts(rounds, posts)
    sets = [free_places(game, posts[0])]
    for at in range(len(posts) - 1):
        sets.append(rounds.spread(at % game.web.beats, posts[at], posts[at + 1], sets[at]))
    return sets


def tracks(game, posts):
    """Yield every way of running that is not caught, in ascending order: the places at each moment."""
    rounds = Rounds(game)
    check_posts(rounds, posts)
    # All that is needed of the posts is worked out before the first track, so they can change from outside then.
    ways = open_ways(rounds, posts)
    track = completed(ways, [])
    while track is not None:
        yield list(track)
        track = track_after(ways, track)


def check_posts(rounds, posts):
    """Raise BadPost or CannotSend unless the seekers can begin with the first post and send the others in turn."""
    check_post(rounds.game, posts[0])
    for at in range(len(posts) - 1):
        if not rounds.can_send(at % rounds.game.web.beats, posts[at], posts[at + 1]):
            raise CannotSend(posts[at + 1])


def open_ways(rounds, posts):
    """For each moment a dict: where the runner can go from each place, or begin (None), so as not to be caught later.

    The places to go to are ascending tuples.
    """
    free = free_places(rounds.game, posts[-1])
    ways = []
    for at in range(len(posts) - 2, -1, -1):
        beat = at % rounds.game.web.beats
        found = {}
        for place in free_places(rounds.game, posts[at]):
            ends = rounds.runs(beat, posts[at], posts[at + 1], place)
            found[place] = tuple([end for end in ends if end in free])
        ways.append(found)
        free = tuple([place for place in found if found[place]])
    ways.append({None: free})
    return ways[::-1]


def choices_at(ways, track, at):
    """The places to which the runner can go at this moment, after the track up to it."""
    return ways[at][track[at - 1] if at > 0 else None]


def completed(ways, track):
    """The least track that begins with this one, or None if there is none."""
    longer = list(track)
    for at in range(len(track), len(ways)):
        places = choices_at(ways, longer, at)
        if not places:
            return None
        longer.append(places[0])
    return longer


def track_after(ways, track):
    """The least track behind this one in the ascending order, or None if it is the last."""
    for at in range(len(ways) - 1, -1, -1):
        greater = [place for place in choices_at(ways, track, at) if place > track[at]]
        if greater:
            return completed(ways, [*track[:at], greater[0]])
    return None
