"""Judging plans: is the runner caught whatever it does, or how does it get away?"""

from tagwebs.checking import check_most, check_places
from tagwebs.errors import BadNumber, TooMany, UnknownPosition
from tagwebs.obeying import later_positions, opening_positions
from tagwebs.positions import check_plan
from tagwebs.rounds import Rounds


class Verdict:
    """What is found out about a plan for a game: a Sure or an Escape."""

    def __init__(self, game, plan):
        self.game = game
        self.plan = plan


class Sure(Verdict):
    """The runner is caught: for each position that comes up, how many rounds it can put this off."""

    def __init__(self, game, plan, ranks, rounds):
        super().__init__(game, plan)
        self.rounds = rounds
        self._ranks = {position: ranks[position] for position in ranks}

    def __len__(self):
        return len(self._ranks)

    def rank(self, position):
        """The greatest number of rounds in which the runner can put off being caught from this position on."""
        if position not in self._ranks:
            raise UnknownPosition(position)
        return self._ranks[position]

    def told(self):
        """In words, within how many rounds the runner is caught."""
        return f"sure within {self.rounds}"


class Escape(Verdict):
    """The runner gets away: at the places of the stem at first, then at those of the ring again and again."""

    def __init__(self, game, plan, stem, ring):
        super().__init__(game, plan)
        self.stem = tuple(stem)
        self.ring = tuple(ring)

    def where(self, moment):
        """The place of the runner at a moment."""
        if moment < 0:
            raise BadNumber(moment)
        if moment < len(self.stem):
            return self.stem[moment]
        return self.ring[(moment - len(self.stem)) % len(self.ring)]

    def told(self):
        """In words, that the runner gets away."""
        return "free for ever"


def judge(game, plan, *, most=6000):
    """The Sure or the Escape of a plan for a game."""
    check_plan(game, plan)
    check_most(most)
    starts = opening_positions(game, plan)
    nexts = explored(Rounds(game), plan, starts, most)
    ranks = delays(nexts)
    endless = [position for position in starts if position not in ranks]
    if endless:
        stem, ring = circle(nexts, ranks, endless[0])
        return Escape(game, plan, stem, ring)
    return Sure(game, plan, ranks, max([0, *[ranks[position] for position in starts]]))


def explored(rounds, plan, starts, most):
    """A dict of all positions that come up, each with the list of the next ones."""
    nexts = {}
    ahead = list(starts)
    while ahead:
        position = ahead.pop()
        if position not in nexts:
            if len(nexts) == most:
                raise TooMany(most)
            nexts[position] = later_positions(rounds, plan, position)
            ahead.extend(nexts[position])
    return nexts


def delays(nexts):
    """A dict of the ranks of those positions from which the runner is caught whatever it does."""
    askers = {position: [] for position in nexts}
    lacking = {}
    for position, found in nexts.items():
        lacking[position] = len(found)
        for later in found:
            askers[later].append(position)
    ranks = {}
    ready = [position for position in nexts if lacking[position] == 0]
    while ready:
        position = ready.pop()
        ranks[position] = 1 + max([0, *[ranks[later] for later in nexts[position]]])
        for asker in askers[position]:
            lacking[asker] -= 1
            if lacking[asker] == 0:
                ready.append(asker)
    return ranks


def circle(nexts, ranks, start):
    """The places of a runner who goes on from a position without a rank to other such ones until one comes again.

    These are two lists: the places before that position, and those from it on until it comes again.
    """
    moments = {}
    position = start
    while position not in moments:
        moments[position] = len(moments)
        position = [later for later in nexts[position] if later not in ranks][0]
    places = [passed[2][-1] for passed in moments]
    return (places[:moments[position]], places[moments[position]:])


def is_escape(game, plan, stem, ring):
    """True if the runner gets away at these places: those of the stem, then those of the ring again and again."""
    check_plan(game, plan)
    check_places(game.web, [*stem, *ring])
    if len(ring) == 0:
        return False
    rounds = Rounds(game)
    ahead = opening_positions(game, plan)
    passed = []
    for place in [*stem, *ring, ring[0]]:
        found = [position for position in ahead if position[2][-1] == place]
        if not found:
            return False
        passed.append(found[0])
        ahead = later_positions(rounds, plan, found[0])
    return passed[len(stem)] == passed[-1]
