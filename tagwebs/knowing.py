"""What the seekers know in a game: standings, without the checks of arguments.

The functions take the Rounds of the game, so that what they ask about rounds is kept from call to call.
"""

from tagwebs.rounds import free_places, is_post_of
from tagwebs.sets import is_set


def is_shaped(standing):
    """True if the tuple is made of an integer, a tuple of tuples of integers and a tuple of integers."""
    if len(standing) != 3:
        return False
    beat, trail, places = standing
    if not isinstance(beat, int) or not isinstance(trail, tuple):
        return False
    return is_row(places) and all([is_row(post) for post in trail])


def is_row(places):
    """True if the value is a tuple of integers."""
    return isinstance(places, tuple) and all([isinstance(place, int) for place in places])


def is_known(rounds, standing):
    """True if the tuple is a standing of the game."""
    if not is_shaped(standing):
        return False
    beat, trail, places = standing
    if not 0 <= beat < rounds.game.web.beats or not is_trail(rounds, beat, trail):
        return False
    return are_told(rounds.game, standing) and len(now_at(rounds, standing)) > 0


def is_trail(rounds, beat, trail):
    """True if the seekers can have gone from post to post so that this beat follows."""
    if len(trail) == 0 or not all([is_post_of(rounds.game, post) for post in trail]):
        return False
    beats = trail_beats(rounds.game, beat, trail)
    return all([rounds.can_send(beats[at], trail[at], trail[at + 1]) for at in range(len(beats))])


def trail_beats(game, beat, trail):
    """The beats of the rounds between the posts of a trail, of which the last is the one before this beat."""
    many = len(trail) - 1
    return [(beat - many + at) % game.web.beats for at in range(many)]


def are_told(game, standing):
    """True if the places of the standing are such as its trail tells, and the trail is no longer than it can be."""
    beat, trail, places = standing
    free = free_places(game, trail[0])
    inside = len(places) > 0 and is_set(places, len(game.web)) and all([place in free for place in places])
    if game.late is None:
        return inside and len(trail) == 1
    if len(trail) == game.late + 1:
        return inside and len(places) == 1
    return len(trail) <= game.late and places == free and beat == (len(trail) - 1) % game.web.beats


def now_at(rounds, standing):
    """The set of the places at which the runner can be now."""
    beat, trail, places = standing
    for at, then in enumerate(trail_beats(rounds.game, beat, trail)):
        places = rounds.spread(then, trail[at], trail[at + 1], places)
    return places


def told_place(game, standing):
    """The place that the seekers are told in a standing, or None."""
    _, trail, places = standing
    return None if game.late is None or len(trail) <= game.late else places[0]


def starts_of(game, post):
    """The ascending list of the standings at moment 0 with this post."""
    return split_places(game, 0, (post,), free_places(game, post))


def split_places(game, beat, trail, places):
    """The standings with this trail: one for each place if one is told, otherwise one with all, if there are any."""
    if game.late is not None and len(trail) == game.late + 1:
        return [(beat, trail, (place,)) for place in places]
    return [(beat, trail, places)] if len(places) > 0 else []


def follow(rounds, standing, post):
    """The ascending list of the standings after a round in which the seekers send this post."""
    game = rounds.game
    beat, trail, places = standing
    beat = (beat + 1) % game.web.beats
    trail = (*trail, post)
    if game.late is None or len(trail) > game.late + 1:
        then = trail_beats(game, beat, trail)[0]
        places = rounds.spread(then, trail[0], trail[1], places)
        trail = trail[1:]
    found = split_places(game, beat, trail, places)
    return [other for other in found if len(now_at(rounds, other)) > 0]
