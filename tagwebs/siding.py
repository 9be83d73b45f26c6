"""The search for tables of sides."""

from tagwebs.reaching import around, pieces, reached
from tagwebs.sets import has_all, sets_up_to
from tagwebs.sides import Sides


def find_sides(web, seekers):
    """A Sides for so many seekers, of whom a swift runner whom they see can get away."""
    agreed = agreed_sides(web, seekers)
    rows = []
    for post in sets_up_to(len(web), seekers):
        # What leaves a lesser post less room is the side of a post that has all its places.
        side = [agreed[full] for full in agreed if has_all(full, post)][0]
        rows.append((post, reached(web, 0, side, post)))
    return Sides(web, seekers, rows)


def agreed_sides(web, seekers):
    """A dict of one side for each post that has just so many places; all of these touch."""
    posts = [post for post in sets_up_to(len(web), seekers) if len(post) == seekers]
    choices = [pieces(web, post) for post in posts]
    sides = settled(choices, touching_sides(web, choices))
    return {post: sides[at] for at, post in enumerate(posts)}


def touching_sides(web, choices):
    """A dict that gives for each of the sides a dict of those that touch it."""
    every = sorted(set([side for sides in choices for side in sides]))
    touching = {}
    for side in every:
        near = around(web, side)
        touching[side] = {other: True for other in every if any([place in near for place in other])}
    return touching


def settled(choices, touching):
    """A list of one side out of each list, all of which touch, or None if there is none."""
    choices = thinned(choices, touching)
    if not all(choices):
        return None
    for at, sides in enumerate(choices):
        if len(sides) > 1:
            for side in sides:
                found = settled([*choices[:at], [side], *choices[at + 1:]], touching)
                if found is not None:
                    return found
            return None
    return [sides[0] for sides in choices]


def thinned(choices, touching):
    """The lists without the sides that cannot be chosen, as they touch no side that is left of another list."""
    before = []
    while choices != before:
        before = choices
        choices = [[side for side in sides if touches_all(touching[side], before)] for sides in before]
    return choices


def touches_all(near, choices):
    """True if each list has a side that is near."""
    return all([any([side in near for side in sides]) for sides in choices])
