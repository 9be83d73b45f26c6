"""Plans made of the papers of the seekers."""

from tagwebs.errors import TooMany
from tagwebs.knowing import follow, starts_of, told_place
from tagwebs.names import numbered_name
from tagwebs.placing import names_of
from tagwebs.plans import Plan
from tagwebs.rounds import Rounds


def compiled(ranks):
    """A plan that does what a Ranks says: with a state for each stop, of which the seekers know without being told."""
    game = ranks.game
    rows = ranks.pruned().rows()
    stops = {}
    for standing in [*starts_of(game, ranks.first), *[row[0] for row in rows]]:
        stops.setdefault(stop_of(game, standing), len(stops))
    if len(stops) > 40:
        raise TooMany(len(stops))
    opening = names_of(game.web, ranks.first)
    if not stops:
        # No place is free, but a plan has a state.
        return Plan(opening, [(numbered_name(0), [])])
    rounds = Rounds(game)
    rules = [[] for at in range(len(stops))]
    for standing, _, post in rows:
        rules[stops[stop_of(game, standing)]].append(rule_of(rounds, stops, standing, post))
    return Plan(opening, [(numbered_name(at), rules[at]) for at in range(len(rules))])


def stop_of(game, standing):
    """What the seekers know in a standing besides the place that they are told."""
    return standing if game.late is None else standing[:2]


def rule_of(rounds, stops, standing, post):
    """The rule to send this post in a standing."""
    game = rounds.game
    place = told_place(game, standing)
    tells = "none" if place is None else (game.web.places[place],)
    # All answers to a post have one stop. Where there is none, no state follows, so any can be told.
    found = [standing, *follow(rounds, standing, post)]
    return (tells, names_of(game.web, post), numbered_name(stops[stop_of(game, found[-1])]))
