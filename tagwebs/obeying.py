"""What happens while the seekers obey a plan, without the checks of arguments.

A position is a tuple (beat, post, track, state); the track has the places of the runner at the last moments.
"""

from tagwebs.placing import numbers_of
from tagwebs.rounds import free_places


def longer_track(game, track, place):
    """The track after the runner has come to this place."""
    many = 1 if game.late is None else game.late + 1
    longer = (*track, place)
    return longer[-many:]


def told_name(game, track):
    """The name of the place that the seekers are told, or None."""
    if game.late is None or len(track) <= game.late:
        return None
    return game.web.places[track[0]]


def planned(rounds, plan, beat, post, state, told):
    """The post that is sent, and the state that follows, if this is told in a state of the plan."""
    action, then = plan(state, told)
    if action is not None:
        sent = numbers_of(rounds.game.web, action)
        if rounds.can_send(beat, post, sent):
            return (sent, then)
    return (post, then)


def opening_positions(game, plan):
    """The ascending list of the positions at moment 0."""
    post = numbers_of(game.web, plan.opening)
    return [(0, post, (place,), plan.start) for place in free_places(game, post)]


def later_positions(rounds, plan, position):
    """The ascending list of the positions that can come after a round."""
    game = rounds.game
    beat, post, track, state = position
    sent, then = planned(rounds, plan, beat, post, state, told_name(game, track))
    ends = rounds.runs(beat, post, sent, track[-1])
    return [((beat + 1) % game.web.beats, sent, longer_track(game, track, place), then) for place in ends]
