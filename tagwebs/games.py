"""Games: the ways to play on a web."""

from tagwebs.checking import check_place
from tagwebs.errors import BadGame, BadPost, CannotSend, NotFree, UnknownName
from tagwebs.rounds import is_post_of, posts_of, runs_of, sends_of


class Game:
    """A way to play on a web: how many seekers travel how, and what the runner can do and they are told."""

    def __init__(self, web, seekers, *, travel="walk", pace="step", late=0):
        if travel not in ("walk", "fly"):
            raise BadGame("travel")
        if not 1 <= seekers <= (4 if travel == "walk" else 8):
            raise BadGame("seekers")
        if pace not in ("step", "swift"):
            raise BadGame("pace")
        if late is not None and not 0 <= late <= 3:
            raise BadGame("late")
        self.web = web
        self.seekers = seekers
        self.travel = travel
        self.pace = pace
        self.late = late

    def __eq__(self, other):
        return (
            isinstance(other, Game)
            and self.web == other.web
            and self.seekers == other.seekers
            and self.travel == other.travel
            and self.pace == other.pace
            and self.late == other.late
        )

    def changed(self, **more):
        """The game in which the arguments of these names are replaced."""
        parts = {
            "web": self.web, "seekers": self.seekers, "travel": self.travel, "pace": self.pace, "late": self.late
        }
        for name, value in more.items():
            if name not in parts:
                raise UnknownName(name)
            parts[name] = value
        return Game(
            parts["web"], parts["seekers"], travel=parts["travel"], pace=parts["pace"], late=parts["late"]
        )

    def posts(self):
        """The ascending list of all posts."""
        return posts_of(self)

    def is_post(self, post):
        """True if the tuple of integers is a post."""
        return is_post_of(self, post)

    def sends(self, beat, post):
        """The ascending list of the posts to which the seekers can go in a round of this beat."""
        check_post(self, post)
        return sends_of(self, beat, post)

    def runs(self, beat, post, sent, place):
        """The set of the places at which the runner can be after the round, not caught."""
        check_round(self, beat, post, sent)
        check_free(self, post, place)
        return runs_of(self, beat, post, sent, place)

    def spread(self, beat, post, sent, places):
        """The set of all places that are in runs of one of these places."""
        check_round(self, beat, post, sent)
        for place in places:
            check_free(self, post, place)
        ends = [end for place in sorted(set(places)) for end in runs_of(self, beat, post, sent, place)]
        return tuple(sorted(set(ends)))


def check_post(game, post):
    """Raise BadPost unless this is a post of the game."""
    if not is_post_of(game, post):
        raise BadPost(post)


def check_round(game, beat, post, sent):
    """Raise BadPost or CannotSend unless the seekers can go from one post to the other."""
    check_post(game, post)
    if sent not in sends_of(game, beat, post):
        raise CannotSend(sent)


def check_free(game, post, place):
    """Raise UnknownPlace or NotFree unless the place is free beside the post."""
    check_place(game.web, place)
    if place in post:
        raise NotFree(place)
