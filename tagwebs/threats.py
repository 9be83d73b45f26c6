"""Threats: sets of places from which a runner of whom nothing is told can always get away."""

from tagwebs.checking import check_most, check_places, check_unseen
from tagwebs.errors import BadPaper, TooMany
from tagwebs.games import check_post
from tagwebs.rounds import Rounds, free_places, is_post_of, posts_of
from tagwebs.sets import has_all, is_set, sets_up_to


class Threats:
    """A list of threats, such that whatever is sent against one of them, the places to run to have all of another."""

    def __init__(self, game, rows):
        check_unseen(game)
        self.game = game
        self._order = checked_rows(game, rows)
        self._sets = sets_by_post(game, self._order)
        rounds = Rounds(game)
        for at, (beat, post, places) in enumerate(rows):
            if not lasts(rounds, self._sets, beat, post, places):
                raise BadPaper("answer", at)
        self._free = all([has_one(self._sets[(0, post)], free_places(game, post)) for post in posts_of(game)])

    def __len__(self):
        return len(self._order)

    def __iter__(self):
        return iter(self._order)

    @property
    def free(self):
        """True if the runner escapes from every post with which the seekers begin."""
        return self._free

    def of(self, beat, post):
        """The ascending list of the sets of the threats with this beat and post."""
        check_post(self.game, post)
        return list(self._sets[(beat % self.game.web.beats, post)])

    def escapes(self, beat, post, places):
        """True if the places have all places of some threat with this beat and post."""
        check_post(self.game, post)
        check_places(self.game.web, places)
        return has_one(self._sets[(beat % self.game.web.beats, post)], places)


def all_threats(game, *, most=1000):
    """The Threats of the least sets from which the runner can always get away."""
    check_unseen(game)
    check_most(most)
    posts = posts_of(game)
    count = game.web.beats * sum([(1 << len(free_places(game, post))) - 1 for post in posts])
    if count > most:
        raise TooMany(count)
    rounds = Rounds(game)
    sets = {}
    for beat in range(game.web.beats):
        for post in posts:
            sets[(beat, post)] = [(place,) for place in free_places(game, post)]
    fewer = lasting_sets(rounds, sets)
    while fewer != sets:
        sets = fewer
        fewer = lasting_sets(rounds, sets)
    return Threats(game, [(beat, post, places) for (beat, post), found in sets.items() for places in found])


def lasting_sets(rounds, sets):
    """For each beat and post the least sets from which the runner comes, whatever is sent, to one of these sets.

    Only larger sets than these are looked at: they are the least ones from which it gets away for fewer rounds.
    """
    count = len(rounds.game.web)
    every = sorted(sets_up_to(count, count), key=len)
    lasting = {}
    for (beat, post), least in sets.items():
        found = []
        for places in every:
            if has_one(least, places) and not has_one(found, places) and not any([place in post for place in places]):
                if lasts(rounds, sets, beat, post, places):
                    found.append(places)
        lasting[(beat, post)] = found
    return lasting


def lasts(rounds, sets, beat, post, places):
    """True if, whatever is sent, the runner can come from the places to all places of one of the sets."""
    later = (beat + 1) % rounds.game.web.beats
    for sent in rounds.sends(beat, post):
        if not has_one(sets[(later, sent)], rounds.spread(beat, post, sent, places)):
            return False
    return True


def has_one(sets, places):
    """True if all places of one of the sets are among the places."""
    return any([has_all(places, one) for one in sets])


def checked_rows(game, rows):
    """The ascending list of the threats, or BadPaper for the first one that is wrong in itself or occurs again."""
    found = {}
    for at, threat in enumerate(rows):
        if not is_threat(game, threat) or threat in found:
            raise BadPaper("row", at)
        found[threat] = True
    return sorted(list(found))


def is_threat(game, threat):
    """True if the tuple has a beat, a post, and one or more of its free places."""
    beat, post, places = threat
    if not 0 <= beat < game.web.beats or not is_post_of(game, post):
        return False
    return len(places) > 0 and is_set(places, len(game.web)) and not any([place in post for place in places])


def sets_by_post(game, rows):
    """A dict of the ascending lists of the sets of the threats, for each pair of a beat and a post."""
    sets = {(beat, post): [] for beat in range(game.web.beats) for post in posts_of(game)}
    for beat, post, places in rows:
        sets[(beat, post)].append(places)
    return sets
