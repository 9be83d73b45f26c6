"""Posts and rounds of games, without the checks of arguments."""

from tagwebs.reaching import reached
from tagwebs.sets import is_set


class Rounds:
    """The rounds of one game. What was asked once is kept, because a table asks the same again and again."""

    def __init__(self, game):
        self.game = game
        self._posts = tuple(posts_of(game))
        self._sends = {}
        self._ends = {}
        self._runs = {}
        self._spreads = {}

    def sends(self, beat, post):
        """The ascending tuple of the posts that can be sent from this post at this beat."""
        if self.game.travel == "fly":
            return self._posts
        key = (beat, post)
        if key not in self._sends:
            self._sends[key] = tuple(sends_of(self.game, beat, post))
        return self._sends[key]

    def can_send(self, beat, post, sent):
        """True if the seekers can go from one post to the other in a round of this beat."""
        return sent in self.sends(beat, post)

    def runs(self, beat, post, sent, place):
        """The set of the places at which the runner can be after the round, not caught."""
        key = (beat, post, sent, place)
        if key not in self._runs:
            # Many rounds bar the same places.
            way = (beat, barred_of(self.game, post, sent), place)
            if way not in self._ends:
                self._ends[way] = ends_of(self.game, *way)
            self._runs[key] = not_caught(self.game, sent, place, self._ends[way])
        return self._runs[key]

    def spread(self, beat, post, sent, places):
        """The set of all places to which the runner can come, not caught, from one of this tuple."""
        key = (beat, post, sent, places)
        if key not in self._spreads:
            ends = [end for place in places for end in self.runs(beat, post, sent, place)]
            self._spreads[key] = tuple(sorted(set(ends)))
        return self._spreads[key]


def is_post_of(game, post):
    """True if the tuple of integers is a post of the game."""
    if game.travel == "fly":
        return len(post) <= game.seekers and is_set(post, len(game.web))
    if len(post) != game.seekers:
        return False
    return is_rising(post) and 0 <= post[0] and post[-1] < len(game.web)


def is_rising(post):
    """True if no number of the tuple is less than the one before it."""
    return all([post[at] <= post[at + 1] for at in range(len(post) - 1)])


def free_places(game, post):
    """The tuple of the places that are not in the post."""
    return tuple([place for place in range(len(game.web)) if place not in post])


def posts_of(game):
    """The ascending list of all posts of the game."""
    posts = [()]
    longest = [()]
    for _ in range(game.seekers):
        longest = longer_posts(game, longest)
        posts.extend(longest)
    return longest if game.travel == "walk" else sorted(posts)


def longer_posts(game, posts):
    """All posts with one seeker more at the end; only those who walk can be several at one place."""
    apart = 0 if game.travel == "walk" else 1
    longer = []
    for post in posts:
        least = post[-1] + apart if post else 0
        longer.extend([(*post, place) for place in range(least, len(game.web))])
    return longer


def sends_of(game, beat, post):
    """The ascending list of the posts that can be sent from this post at this beat."""
    if game.travel == "fly":
        return posts_of(game)
    ways = [()]
    for place in post:
        ways = sorted(set([with_one(way, step) for way in ways for step in game.web.steps(place, beat)]))
    return ways


def with_one(post, place):
    """The ascending tuple with one number more."""
    return tuple(sorted([*post, place]))


def runs_of(game, beat, post, sent, place):
    """The set of the places at which the runner, now at this place, can be after the round, not caught."""
    return not_caught(game, sent, place, ends_of(game, beat, barred_of(game, post, sent), place))


def barred_of(game, post, sent):
    """The places to which the runner cannot run in a round: those who walk have gone before it runs."""
    return sent if game.travel == "walk" else tuple([held for held in post if held in sent])


def ends_of(game, beat, barred, place):
    """The set of the places to which the runner can run from this one, but not through a barred place."""
    if game.pace == "swift":
        return reached(game.web, beat, (place,), barred)
    # All barred places are in the post that is sent, so a step to one of them is left to not_caught.
    return game.web.steps(place, beat)


def not_caught(game, sent, place, ends):
    """Those of the ends at which the runner is not caught, none if those who walk come to its place first."""
    if game.travel == "walk" and place in sent:
        return ()
    return tuple([end for end in ends if end not in sent])
