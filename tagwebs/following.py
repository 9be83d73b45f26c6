"""Deeds on a desk that follow a paper or a plan."""

from tagwebs.errors import NotNow, NotSeen, OtherGame, UnknownName
from tagwebs.obeying import planned
from tagwebs.placing import numbers_of
from tagwebs.positions import check_plan
from tagwebs.rounds import Rounds


def seek(desk, ranks):
    """The seekers do what their paper says; the post is returned."""
    check_game(desk, ranks)
    check_turns(desk, ("begin", "send"))
    if desk.turn == "begin":
        post = ranks.first
        desk.begin(post)
    else:
        post = ranks.send(desk.knows)
        desk.send(post)
    return post


def evade(desk, lot):
    """The runner, whom the seekers always see, does what its paper says; the place is returned."""
    if lot.game.late != 0:
        raise NotSeen()
    check_game(desk, lot)
    check_turns(desk, ("hide", "run"))
    if desk.turn == "hide":
        place = lot.entry(desk.here)[2][0]
        desk.hide(place)
    else:
        place = lot.answer(desk.knows, desk.sent)[2][0]
        desk.run(place)
    return place


def obey(desk, plan, state=None):
    """The seekers do what a plan says in a state; the state that follows is returned."""
    game = desk.game
    check_plan(game, plan)
    if state is None:
        state = plan.start
    if state not in [name for name, rules in plan.states]:
        raise UnknownName(state)
    check_turns(desk, ("begin", "send"))
    if desk.turn == "begin":
        desk.begin(numbers_of(game.web, plan.opening))
        return state
    told = None if desk.heard is None else game.web.places[desk.heard]
    post, then = planned(Rounds(game), plan, desk.beat, desk.here, state, told)
    desk.send(post)
    return then


def check_game(desk, paper):
    """Raise OtherGame unless the paper is one of the game of the desk."""
    if paper.game != desk.game:
        raise OtherGame()


def check_turns(desk, words):
    """Raise NotNow unless it is one of these turns."""
    if desk.turn not in words:
        raise NotNow(desk.turn)
