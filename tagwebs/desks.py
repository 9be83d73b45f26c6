"""The desk: it keeps a game that is played."""

from tagwebs.checking import check_place
from tagwebs.errors import BadNumber, CannotRun, NothingToRedo, NothingToUndo, NotNow
from tagwebs.games import check_free, check_post, check_round
from tagwebs.knowing import follow, now_at, starts_of, told_place
from tagwebs.obeying import longer_track
from tagwebs.placing import names_of
from tagwebs.rounds import Rounds, free_places, runs_of


class Desk:
    """A game that is played, with one runner at a true place. Deeds change it, and can be taken back.

    All that it tells at a moment is kept as one dict, which is never changed, so that it can come back later.
    """

    def __init__(self, game, *, memory=50):
        if not 0 <= memory <= 200:
            raise BadNumber(memory)
        self.game = game
        self.memory = memory
        self._now = {
            "turn": "begin", "played": 0, "here": None, "sent": None, "track": (), "knows": None,
            "possible": tuple(range(len(game.web))), "log": (),
        }
        self._before = []
        self._after = []

    @property
    def turn(self):
        """The word for what comes next."""
        return self._now["turn"]

    @property
    def played(self):
        """The number of rounds that are over."""
        return self._now["played"]

    @property
    def beat(self):
        """The beat of the round that is played now or next."""
        return self._now["played"] % self.game.web.beats

    @property
    def here(self):
        """The post at which the seekers are, or from which they are sent."""
        return self._now["here"]

    @property
    def sent(self):
        """The post that is sent."""
        return self._now["sent"]

    @property
    def runner(self):
        """The place of the runner at the last moment."""
        return self._now["track"][-1] if self._now["track"] else None

    @property
    def knows(self):
        """What the seekers know at the last moment."""
        return self._now["knows"]

    @property
    def heard(self):
        """The place that the seekers are told at the last moment."""
        return None if self._now["knows"] is None else told_place(self.game, self._now["knows"])

    @property
    def possible(self):
        """The set of the places at which the runner can be, as far as the seekers know."""
        return self._now["possible"]

    @property
    def log(self):
        """The tuple of the rows of the deeds that were done and are not taken back."""
        return self._now["log"]

    @property
    def caught(self):
        """True if the runner is caught."""
        return self._now["turn"] == "over"

    def begin(self, post):
        """The seekers choose their first post."""
        check_turn(self, "begin")
        check_post(self.game, post)
        free = free_places(self.game, post)
        change = {"turn": "hide" if free else "over", "here": post, "possible": free}
        self.advance(row_of_post(self.game, "begin", post), change)

    def hide(self, place):
        """The runner chooses its first place."""
        check_turn(self, "hide")
        check_free(self.game, self.here, place)
        found = starts_of(self.game, self.here)
        self.advance(row_of_post(self.game, "hide", (place,)), change_to(self.game, found, (place,)))

    def send(self, post):
        """The seekers send a post."""
        check_turn(self, "send")
        check_round(self.game, self.beat, self.here, post)
        change = {"turn": "run", "sent": post}
        if not runs_of(self.game, self.beat, self.here, post, self.runner):
            change = {
                "turn": "over", "played": self.played + 1, "here": post, "track": (), "knows": None, "possible": (),
            }
        self.advance(row_of_post(self.game, "send", post), change)

    def run(self, place):
        """The runner runs."""
        check_turn(self, "run")
        check_place(self.game.web, place)
        if place not in runs_of(self.game, self.beat, self.here, self.sent, self.runner):
            raise CannotRun(place)
        found = follow(Rounds(self.game), self.knows, self.sent)
        change = change_to(self.game, found, longer_track(self.game, self._now["track"], place))
        change.update({"played": self.played + 1, "here": self.sent, "sent": None})
        self.advance(row_of_post(self.game, "run", (place,)), change)

    def undo(self):
        """Take back the last deed that is not taken back."""
        if not self._before:
            raise NothingToUndo()
        self._after.append(self._now)
        self._now = self._before.pop()

    def redo(self):
        """Do the deed that was taken back last again."""
        if not self._after:
            raise NothingToRedo()
        self._before.append(self._now)
        self._now = self._after.pop()

    def advance(self, row, change):
        """Note a deed that was done: its row, and what it changes of what the desk tells."""
        before = [*self._before, self._now]
        self._before = before[max(0, len(before) - self.memory):]
        self._after = []
        self._now = {**self._now, "log": (*self._now["log"], row)}
        self._now.update(change)

    def twin(self):
        """Another desk that tells the same and can take back and do again the same."""
        other = Desk(self.game, memory=self.memory)
        other.become(self)
        return other

    def become(self, other):
        """Be as another desk with the same game and memory is."""
        self._now = other._now
        self._before = list(other._before)
        self._after = list(other._after)


def check_turn(desk, word):
    """Raise NotNow unless it is this turn."""
    if desk.turn != word:
        raise NotNow(desk.turn)


def row_of_post(game, word, post):
    """The row of a deed with these places."""
    return " ".join([word, *names_of(game.web, post)])


def change_to(game, found, track):
    """What the desk tells when the runner has come to the end of a track, of which the seekers know one of these."""
    fitting = [standing for standing in found if told_place(game, standing) in (None, track[0])]
    return {"turn": "send", "track": track, "knows": fitting[0], "possible": now_at(Rounds(game), fitting[0])}
