"""Bags and sides of parts of webs."""

from tagwebs.bags import Bags
from tagwebs.checking import check_plain
from tagwebs.parts import check_carry, new_numbers, old_numbers
from tagwebs.reaching import reached
from tagwebs.sets import sets_up_to
from tagwebs.sides import Sides


def cut_bags(bags, places):
    """The Bags of a part of the web, with the same links."""
    web = bags.web.restricted(places)
    return Bags(web, [new_numbers(places, bag) for bag in bags.bags], bags.links)


def carry_sides(web, places, sides):
    """The Sides of the web in which each side has that of the Sides of a part of it."""
    check_plain(web)
    check_carry(web, places, sides.web)
    rows = []
    for post in sets_up_to(len(web), sides.seekers):
        side = old_numbers(places, sides.side(new_numbers(places, post)))
        rows.append((post, reached(web, 0, side, post)))
    return Sides(web, sides.seekers, rows)
