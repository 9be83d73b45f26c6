"""Positions: how things stand at a moment while the seekers obey a plan."""

from tagwebs.errors import UnfitPlan, UnknownPosition
from tagwebs.knowing import is_row
from tagwebs.obeying import later_positions, opening_positions
from tagwebs.placing import numbers_of
from tagwebs.rounds import Rounds, is_post_of


def check_plan(game, plan):
    """Raise UnfitPlan unless the plan fits the game."""
    if not is_named_post(game, plan.opening):
        raise UnfitPlan("opening", 0)
    for at, (_, rules) in enumerate(plan.states):
        if not all([is_fit(game, rule) for rule in rules]):
            raise UnfitPlan("state", at)


def is_named_post(game, names):
    """True if the names stand for a post of the game."""
    return all([name in game.web for name in names]) and is_post_of(game, numbers_of(game.web, names))


def is_fit(game, rule):
    """True if the tells of a rule name places of the web, and its action stands for a post."""
    tells, action, _ = rule
    if not isinstance(tells, str) and not all([name in game.web for name in tells]):
        return False
    return action is None or is_named_post(game, action)


def first_positions(game, plan):
    """The ascending list of the positions at moment 0."""
    check_plan(game, plan)
    return opening_positions(game, plan)


def next_positions(game, plan, position):
    """The ascending list of the positions that can come after a round."""
    check_plan(game, plan)
    if not is_position(game, plan, position):
        raise UnknownPosition(position)
    return later_positions(Rounds(game), plan, position)


def is_position(game, plan, position):
    """True if the tuple has the form of a position, whether it can come up or not."""
    if len(position) != 4:
        return False
    beat, post, track, state = position
    if not isinstance(beat, int) or not is_row(post) or not is_row(track):
        return False
    if not 0 <= beat < game.web.beats or not is_post_of(game, post):
        return False
    many = 1 if game.late is None else game.late + 1
    if not 1 <= len(track) <= many or not all([0 <= place < len(game.web) for place in track]):
        return False
    return track[-1] not in post and state in [name for name, rules in plan.states]
