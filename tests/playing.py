"""What the tests of plans and desks share: plans for games, and a desk worked out from its deeds in another way."""

import oracle
from helpers import many_webs
from tagwebs.games import Game
from tagwebs.plans import Plan

LATES = (0, 1, 2, 3, None)


def some_games(chance, number, seed, most_places=4):
    """Games of all kinds on small webs of all kinds."""
    games = []
    for at, web in enumerate(many_webs(seed, number, most_places, 3)):
        travel = "fly" if at % 3 == 1 else "walk"
        pace = chance.choice(["step", "swift"])
        games.append(Game(web, 1 + chance.randrange(2), travel=travel, pace=pace, late=LATES[at % 5]))
    return games


def names_of_post(game, post):
    return tuple(game.web.places[place] for place in post)


def some_fit_plan(chance, game, most_states=3):
    """A plan that fits the game, with rules of all kinds."""
    posts = game.posts()
    names = ["s", "t", "u", "v"][: 1 + chance.randrange(most_states)]
    places = list(game.web.places)
    states = []
    for name in names:
        rules = []
        for _ in range(chance.randrange(4)):
            told = tuple(chance.sample(places, 1 + chance.randrange(len(places))))
            tells = chance.choice([told, told, "none", "else"])
            action = chance.choice([None, *[names_of_post(game, chance.choice(posts)) for _ in range(3)]])
            rules.append((tells, action, chance.choice(names)))
        states.append((name, rules))
    return Plan(names_of_post(game, chance.choice(posts)), states)


def clever_plan(game):
    """A plan with which walking seekers who see the runner go to it where they can, or toward the first place."""
    places = game.web.places
    rules = [((name,), (name,) * game.seekers, "s") for name in places]
    return Plan((places[0],) * game.seekers, [("s", rules)])


def asked(plan, state, told):
    """What a plan answers, looked up in its states."""
    for tells, action, then in dict(plan.states)[state]:
        if tells == "else" or (tells == "none" and told is None) or (isinstance(tells, tuple) and told in tells):
            return action, then
    return None, state


def go_on(game, plan, position):
    """All that can follow a position, as point [70] tells it."""
    beat, post, track, state = position
    told = game.web.places[track[0]] if game.late is not None and len(track) == game.late + 1 else None
    action, then = asked(plan, state, told)
    sent = post
    if action is not None:
        wanted = tuple(sorted(game.web.places.index(name) for name in action))
        sent = wanted if oracle.can_go(game, beat, post, wanted) else post
    found = []
    for end in sorted(oracle.ends(game, beat, post, sent, track[-1])):
        longer = (*track, end) if game.late is not None else (end,)
        if game.late is not None and len(longer) > game.late + 1:
            longer = longer[1:]
        found.append(((beat + 1) % game.web.beats, sent, longer, then))
    return found


def begun(game, plan):
    """The positions at moment 0."""
    post = tuple(sorted(game.web.places.index(name) for name in plan.opening))
    return [(0, post, (place,), plan.start) for place in range(len(game.web)) if place not in post]


def tells(desk):
    """All that a desk tells, by the names of its properties."""
    words = "turn played beat here sent runner knows heard possible log caught".split()
    return {word: getattr(desk, word) for word in words}


def tells_after(game, deeds):
    """What a desk tells after these deeds, pairs of a word and a post or a place, worked out from the beginning."""
    posts, track, sent, turn = [], [], None, "begin"
    names = game.web.places
    every = range(len(names))
    for word, value in deeds:
        if word == "begin":
            posts = [value]
            turn = "hide" if len(set(value)) < len(names) else "over"
        elif word == "hide":
            track, turn = [value], "send"
        elif word == "send":
            caught = not oracle.ends(game, len(track) - 1, posts[-1], value, track[-1])
            turn, sent = ("over", None) if caught else ("run", value)
            posts += [value] if caught else []
        else:
            track.append(value)
            posts.append(sent)
            turn, sent = "send", None
    going = turn in ("send", "run")
    knows, heard, possible = what_is_known(game, posts, track) if going else (None, None, ())
    if turn in ("begin", "hide"):
        possible = tuple(place for place in every if not posts or place not in posts[0])
    played = max(0, len(posts) - 1)
    return {
        "turn": turn, "played": played, "beat": played % game.web.beats, "here": posts[-1] if posts else None, "sent": sent,
        "runner": track[-1] if going else None, "knows": knows, "heard": heard, "possible": possible,
        "log": tuple(" ".join([word, *[names[place] for place in (value if isinstance(value, tuple) else (value,))]])
                     for word, value in deeds),
        "caught": turn == "over",
    }


def what_is_known(game, posts, track):
    """The standing, the place told, and the possible places, from all runs that would have been told the same."""
    moment = len(track) - 1
    free = tuple(place for place in range(len(game.web)) if place not in posts[0])
    runs = [[place] for place in free]
    for at in range(moment):
        runs = [[*run, end] for run in runs for end in oracle.ends(game, at, posts[at], posts[at + 1], run[-1])]
        if game.late is not None and at + 1 >= game.late:
            runs = [run for run in runs if run[at + 1 - game.late] == track[at + 1 - game.late]]
    if game.late == 0:
        runs = [run for run in runs if run[0] == track[0]]
    now = tuple(sorted({run[-1] for run in runs}))
    beat = moment % game.web.beats
    if game.late is None:
        return (beat, (posts[moment],), now), None, now
    trail = tuple(posts[max(0, moment - game.late):moment + 1])
    if moment < game.late:
        return (beat, trail, free), None, now
    return (beat, trail, (track[moment - game.late],)), track[moment - game.late], now


def next_deeds(game, deeds):
    """All deeds that can follow these, as pairs of a word and a post or a place."""
    told = tells_after(game, deeds)
    if told["turn"] == "begin":
        return [("begin", post) for post in oracle.all_posts(game)]
    if told["turn"] == "hide":
        return [("hide", place) for place in told["possible"]]
    if told["turn"] == "send":
        return [("send", post) for post in oracle.all_posts(game) if oracle.can_go(game, told["beat"], told["here"], post)]
    if told["turn"] == "run":
        return [("run", end) for end in sorted(oracle.ends(game, told["beat"], told["here"], told["sent"], told["runner"]))]
    return []


def do(desk, deed):
    """Do a deed on a desk."""
    getattr(desk, deed[0])(deed[1])
