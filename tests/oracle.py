"""The games played out in another way than the program does it: what the seekers know is a set of runner's tracks.

A state is (beat, post, tracks), where a track is the tuple of the runner's places at the last late + 1 moments (fewer
at the beginning; only the last place if nothing is ever told).
"""

from itertools import combinations, combinations_with_replacement


def all_posts(game):
    count = len(game.web)
    if game.travel == "walk":
        return sorted(combinations_with_replacement(range(count), game.seekers))
    return sorted(post for many in range(game.seekers + 1) for post in combinations(range(count), many))


def can_go(game, beat, post, sent):
    """True if the seekers can go from post to post: some order of the new places fits the old ones."""
    if game.travel == "fly":
        return True
    if not post:
        return not sent
    return any(
        (post[0] == sent[at] or game.web.leads(post[0], sent[at], beat))
        and can_go(game, beat, post[1:], sent[:at] + sent[at + 1:])
        for at in range(len(sent))
    )


def ends(game, beat, post, sent, place):
    """The places where the runner can be after a round, not caught."""
    web = game.web
    if game.travel == "walk":
        barred = set(sent)
        if place in barred:
            return set()
    else:
        barred = set(post) & set(sent)
    found = {place}
    for _ in range(len(web) if game.pace == "swift" else 1):
        found |= {q for p in found for q in range(len(web)) if web.leads(p, q, beat) and q not in barred}
    return found - set(sent)


def split(game, beat, post, tracks):
    """The states that the seekers tell apart by what they are told of tracks that begin at the told moment."""
    if not tracks:
        return []
    if game.late is None or len(next(iter(tracks))) < game.late + 1:
        return [(beat, post, tracks)]
    told = sorted({track[0] for track in tracks})
    return [(beat, post, frozenset(track for track in tracks if track[0] == place)) for place in told]


def starts(game, post):
    return split(game, 0, post, frozenset((p,) for p in range(len(game.web)) if p not in post))


def followers(game, state, sent):
    beat, post, tracks = state
    many = 1 if game.late is None else game.late + 1
    longer = {(*track, end) for track in tracks for end in ends(game, beat, post, sent, track[-1])}
    return split(game, (beat + 1) % game.web.beats, sent, frozenset(track[-many:] for track in longer))


def moves_from(game, first):
    """All states that come up from these, with their moves."""
    posts = all_posts(game)
    moves = {}
    ahead = list(first)
    while ahead:
        state = ahead.pop()
        if state in moves:
            continue
        sends = [sent for sent in posts if can_go(game, state[0], state[1], sent)]
        moves[state] = {sent: followers(game, state, sent) for sent in sends}
        ahead.extend(other for found in moves[state].values() for other in found)
    return moves


def ranks(moves):
    """The rank of each state that has one, by trying every number of rounds in turn."""
    found = {}
    rank = 0
    grown = True
    while grown:
        rank += 1
        fresh = [
            state for state, answers in moves.items()
            if state not in found and any(all(other in found for other in others) for others in answers.values())
        ]
        grown = bool(fresh)
        found.update({state: rank for state in fresh})
    return found


def all_ranks(game):
    """All states that come up, and the ranks of those that have one."""
    moves = moves_from(game, [state for post in all_posts(game) for state in starts(game, post)])
    return moves, ranks(moves)


def longest(game, found, post):
    """The most rounds after this opening, or None if the runner gets away."""
    those = [found.get(state) for state in starts(game, post)]
    return None if None in those else max([0, *those])


def state_of(game, standing):
    """The state that a standing stands for."""
    beat, trail, places = standing
    tracks = {(place,) for place in places}
    for at in range(len(trail) - 1):
        then = (beat - (len(trail) - 1) + at) % game.web.beats
        tracks = {(*t, end) for t in tracks for end in ends(game, then, trail[at], trail[at + 1], t[-1])}
    return (beat, trail[-1], frozenset(tracks))


def rounds(game):
    """The rounds of a game, or None if they are endless."""
    _, found = all_ranks(game)
    those = [longest(game, found, post) for post in all_posts(game)]
    return min([length for length in those if length is not None], default=None)
