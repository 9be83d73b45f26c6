"""Bags and sides of joined webs."""

from tagwebs.bagparts import carry_sides
from tagwebs.bags import Bags
from tagwebs.checking import check_plain, check_seekers
from tagwebs.joining import check_bagged, check_halves, crossed_bags
from tagwebs.parts import new_numbers, old_numbers
from tagwebs.reaching import pieces
from tagwebs.sets import has_all, sets_up_to
from tagwebs.sides import Sides


def join_bags(join, first, second):
    """The Bags of the joined web that come from a Bags of each of the two webs."""
    check_plain(join.web)
    check_bagged(join, first, second)
    if join.kind == "crossed":
        paper, bags = crossed_bags(join, first, second)
        return Bags(join.web, bags, paper.links)
    bags = [old_numbers(join.firsts, bag) for bag in first.bags]
    bags.extend([old_numbers(join.seconds, bag) for bag in second.bags])
    behind = len(first.bags)
    links = [*first.links, *[(one + behind, other + behind) for one, other in second.links]]
    one = 0 if join.at is None else index_with(first.bags, join.at)
    other = behind + (0 if join.to is None else index_with(second.bags, join.to))
    if join.kind == "tied":
        links.extend([(one, len(bags)), (other, len(bags))])
        bags.append((join.of_first(join.at), join.of_second(join.to)))
    else:
        links.append((one, other))
    return Bags(join.web, bags, links)


def index_with(bags, place):
    """The index of the first bag that has the place."""
    return [at for at, bag in enumerate(bags) if place in bag][0]


def join_sides(join, seekers, first, second):
    """The Sides of the joined web that come from a Sides of one of the two webs, or of both."""
    check_plain(join.web)
    check_seekers(seekers)
    check_halves(join, seekers, first, second)
    if join.kind == "crossed":
        posts = sets_up_to(len(join.web), seekers)
        return Sides(join.web, seekers, [(post, crossed_side(join, post, first, second)) for post in posts])
    if first is not None:
        return carry_sides(join.web, join.firsts, first)
    return carry_sides(join.web, join.seconds, second)


def crossed_side(join, post, first, second):
    """The side of a post of a crossed web: it comes from a Sides if only places of one of the two webs are left."""
    if has_all(post, join.seconds):
        return old_numbers(join.firsts, first.side(new_numbers(join.firsts, post)))
    if has_all(post, join.firsts):
        return old_numbers(join.seconds, second.side(new_numbers(join.seconds, post)))
    return pieces(join.web, post)[0]
